package raw_test

import (
	"math"
	"slices"
	"strings"
	"testing"

	"darkslide/api"
	"darkslide/bits"
	"darkslide/diff"
	"darkslide/raw"
)

// full has a word for each class.
var full = []int{3, 3, 4, 4, 4, 4, 4, 4, 5, 5, 5, 5, 6, 6, 6, 7, 7}

// plan of which no number is another one's.
func plan() api.Plan {
	return api.Plan{
		Phase:  3,
		Black:  [4]int{11, 12, 13, 14},
		White:  60000,
		Spots:  []api.Spot{{X: 1, Y: 0}, {X: 0, Y: 2}},
		Gains:  [3]int{500, 256, 300},
		Matrix: [9]int{6000, -1500, -400, -800, 5500, -604, -1, -32768, 32768},
		Curve:  []api.Point{{Y: 7}, {X: 1000, Y: 4000}, {X: 65535, Y: 65000}},
		Amount: 1024,
	}
}

// small is a file of 1, 2 above 3, 4 above 5, 6, in strips of two rows, packed.
func small() api.Raw {
	return api.Raw{W: 2, H: 3, Depth: 3, Rows: 2, Strips: []string{"\x29\xc0", "\xb8"}, Plan: plan()}
}

// differing is a file of the same samples, by differences.
func differing() api.Raw {
	r := small()
	r.Kind, r.Depth, r.Lens = 1, 16, full
	r.Strips = nil
	for _, p := range []api.Plane{{W: 2, H: 2, P: []int{1, 2, 3, 4}}, {W: 2, H: 1, P: []int{5, 6}}} {
		s, _ := diff.Write(p, 1, full)
		r.Strips = append(r.Strips, s)
	}
	return r
}

func samples() api.Plane {
	return api.Plane{W: 2, H: 3, P: []int{1, 2, 3, 4, 5, 6}}
}

// drawn gives numbers of a fixed row, each from 0 to most.
func drawn(seed uint64) func(most int) int {
	return func(most int) int {
		seed = seed*6364136223846793005 + 1442695040888963407
		return int(seed>>33) % (most + 1)
	}
}

func drawnPlane(seed uint64, w, h, most int) api.Plane {
	next := drawn(seed)
	p := api.Plane{W: w, H: h}
	for range w * h {
		p.P = append(p.P, next(most))
	}
	return p
}

func samePlane(p, q api.Plane) bool {
	return p.W == q.W && p.H == q.H && slices.Equal(p.P, q.P)
}

func samePlan(a, b api.Plan) bool {
	numbers := a.Phase == b.Phase && a.Black == b.Black && a.White == b.White && a.Gains == b.Gains && a.Matrix == b.Matrix && a.Amount == b.Amount
	return numbers && slices.Equal(a.Spots, b.Spots) && slices.Equal(a.Curve, b.Curve)
}

func sameFile(a, b api.Raw) bool {
	numbers := a.W == b.W && a.H == b.H && a.Depth == b.Depth && a.Kind == b.Kind && a.Rows == b.Rows
	return numbers && slices.Equal(a.Lens, b.Lens) && slices.Equal(a.Strips, b.Strips) && samePlan(a.Plan, b.Plan)
}

// fault makes something of a file wrong, so that Check's error of that number tells it.
type fault struct {
	number int
	want   api.Errno
	make   func(*api.Raw)
}

// faults of a file of any kind that is right, of two columns, three rows, and strips of two rows.
func faults(kind int) []fault {
	var l []fault
	add := func(number int, want api.Errno, make func(*api.Raw)) { l = append(l, fault{number, want, make}) }
	for _, v := range []int{0, -1, 65, math.MinInt, math.MaxInt} {
		add(1, api.ErrRange, func(r *api.Raw) { r.W = v })
		add(1, api.ErrRange, func(r *api.Raw) { r.H = v })
	}
	for _, v := range []int{0, -1, 17, math.MinInt, math.MaxInt} {
		add(1, api.ErrRange, func(r *api.Raw) { r.Depth = v })
	}
	for _, v := range []int{0, -1, 4, math.MinInt, math.MaxInt} {
		add(1, api.ErrRange, func(r *api.Raw) { r.Rows = v })
	}
	for _, v := range []int{-1, 8, math.MinInt, math.MaxInt} {
		add(2, api.ErrKind, func(r *api.Raw) { r.Kind = v })
	}
	lens := func(want api.Errno, v []int) { add(3, want, func(r *api.Raw) { r.Lens = v }) }
	if kind == 0 {
		for _, v := range [][]int{{1}, {0}, full, make([]int, 18)} {
			lens(api.ErrForm, v)
		}
	} else {
		lens(api.ErrMany, nil)
		lens(api.ErrMany, make([]int, 18))
		lens(api.ErrRange, []int{-1})
		lens(api.ErrRange, []int{1, 16})
		lens(api.ErrForm, []int{0})
		lens(api.ErrForm, []int{1, 1, 1})
	}
	add(4, api.ErrMany, func(r *api.Raw) { r.Strips = nil })
	add(4, api.ErrMany, func(r *api.Raw) { r.Strips = slices.Clone(r.Strips[:1]) })
	add(4, api.ErrMany, func(r *api.Raw) { r.Strips = append(slices.Clone(r.Strips), r.Strips[0]) })
	add(5, api.ErrRange, func(r *api.Raw) { r.Plan.Phase = 4 })
	add(5, api.ErrRange, func(r *api.Raw) { r.Plan.White = 65536 })
	add(5, api.ErrRange, func(r *api.Raw) { r.Plan.Spots = make([]api.Spot, 65) })
	add(5, api.ErrRange, func(r *api.Raw) { r.Plan.Spots = []api.Spot{{X: 2}} })
	add(5, api.ErrRange, func(r *api.Raw) { r.Plan.Spots = []api.Spot{{}, {Y: 3}} })
	add(5, api.ErrRange, func(r *api.Raw) { r.Plan.Spots = []api.Spot{{X: -1}} })
	add(5, api.ErrForm, func(r *api.Raw) { r.Plan.Curve = nil })
	add(5, api.ErrForm, func(r *api.Raw) { r.Plan.Curve, r.Plan.Spots = nil, []api.Spot{{X: 2}} })
	for i := range 2 {
		strip := func(change func(string) string) {
			add(6, api.ErrForm, func(r *api.Raw) {
				if i < len(r.Strips) {
					r.Strips = slices.Clone(r.Strips)
					r.Strips[i] = change(r.Strips[i])
				}
			})
		}
		strip(func(string) string { return "" })
		strip(func(s string) string { return s[:len(s)-1] })
		strip(func(s string) string { return s + "\x00" })
		strip(func(s string) string { return s[:len(s)-1] + string([]byte{s[len(s)-1] | 1}) })
	}
	return l
}

func TestH1FilesThatAreRight(t *testing.T) {
	for i, r := range []api.Raw{small(), differing()} {
		if e := raw.Check(r); e != api.OK {
			t.Errorf("file %d: %d", i, e)
		}
	}
	least := api.Raw{W: 1, H: 1, Depth: 1, Rows: 1, Strips: []string{"\x80"}, Plan: api.Plan{White: 1, Curve: []api.Point{{}, {X: 65535}}}}
	if e := raw.Check(least); e != api.OK {
		t.Errorf("one sample: %d", e)
	}
	most := least
	most.W, most.H, most.Depth, most.Rows = 64, 64, 16, 64
	most.Plan.Spots = slices.Repeat([]api.Spot{{X: 63, Y: 63}}, 64)
	most.Strips = []string{strings.Repeat("\xff", 64*64*2)}
	if e := raw.Check(most); e != api.OK {
		t.Errorf("all samples: %d", e)
	}
	most.Rows, most.Strips = 1, slices.Repeat([]string{strings.Repeat("\xff", 64*2)}, 64)
	if e := raw.Check(most); e != api.OK {
		t.Errorf("all samples, row by row: %d", e)
	}
}

func TestH1HowManyStripsItTakes(t *testing.T) {
	for h := 1; h <= 64; h++ {
		for rows := 1; rows <= h; rows++ {
			r := api.Raw{W: 1, H: h, Depth: 8, Rows: rows, Plan: api.Plan{White: 1, Curve: []api.Point{{}, {X: 65535}}}}
			for left := h; left > 0; left -= rows {
				r.Strips = append(r.Strips, strings.Repeat("x", min(left, rows)))
			}
			if e := raw.Check(r); e != api.OK {
				t.Errorf("%d rows, %d a strip, %d strips: %d", h, rows, len(r.Strips), e)
			}
			r.Strips = append(r.Strips, "")
			if e := raw.Check(r); e != api.ErrMany {
				t.Errorf("%d rows, %d a strip, %d strips: %d", h, rows, len(r.Strips), e)
			}
		}
	}
}

func TestH1TheFirstErrorIsTold(t *testing.T) {
	for kind, file := range []func() api.Raw{small, differing} {
		for i, f := range faults(kind) {
			r := file()
			f.make(&r)
			told(t, r, f.want, "fault", f.number, i)
			for j, g := range faults(kind) {
				if g.number <= f.number {
					continue
				}
				r := file()
				f.make(&r)
				g.make(&r)
				told(t, r, f.want, "faults", f.number, i, g.number, j)
			}
		}
	}
}

// told: whether Check, and what leans on it, tell that error.
func told(t *testing.T, r api.Raw, want api.Errno, about ...any) {
	t.Helper()
	if e := raw.Check(r); e != want {
		t.Errorf("%v: Check tells %d, not %d", about, e, want)
	}
	if p, e := raw.Plane(r); e != want || !samePlane(p, api.Plane{}) {
		t.Errorf("%v: Plane tells %v %d, not %d", about, p, e, want)
	}
	if s, e := raw.Write(r); e != want || s != "" {
		t.Errorf("%v: Write tells %q %d, not %d", about, s, e, want)
	}
}

func TestH1SamplesThatAreTooGreat(t *testing.T) {
	r := differing() // its samples are 1 to 6
	for depth := 1; depth <= 16; depth++ {
		want := api.OK
		if depth < 3 {
			want = api.ErrForm
		}
		r.Depth = depth
		if e := raw.Check(r); e != want {
			t.Errorf("depth %d: %d, not %d", depth, e, want)
		}
	}
	for depth := 1; depth < 16; depth++ {
		for more := range 2 {
			p := samples()
			p.P[5] = 1<<depth - 1 + more
			p.P[0], p.P[1], p.P[2], p.P[3], p.P[4] = 0, 1, 0, 1, 0
			r := differing()
			r.Depth = 16
			r, _ = raw.Fill(r, p)
			r.Depth = depth
			if e := raw.Check(r); (e == api.OK) != (more == 0) || e != api.OK && e != api.ErrForm {
				t.Errorf("depth %d, and a sample of %d: %d", depth, p.P[5], e)
			}
		}
	}
}

func TestH2PlaneByHand(t *testing.T) {
	for i, r := range []api.Raw{small(), differing()} {
		if p, e := raw.Plane(r); e != api.OK || !samePlane(p, samples()) {
			t.Errorf("file %d: %v %d", i, p, e)
		}
	}
}

func TestH2FillByHand(t *testing.T) {
	for i, want := range []api.Raw{small(), differing()} {
		for _, strips := range [][]string{nil, {"x"}, want.Strips, make([]string, 1000)} {
			r := want
			r.Strips = strips
			if got, e := raw.Fill(r, samples()); e != api.OK || !sameFile(got, want) {
				t.Errorf("file %d: %v %d, not %v", i, got, e, want)
			}
		}
	}
}

// stripsOf: what the strips must be, by the calls of chapters 1 and 3.
func stripsOf(t *testing.T, r api.Raw, p api.Plane) []string {
	t.Helper()
	var l []string
	for y := 0; y < p.H; y += r.Rows {
		end := min(y+r.Rows, p.H)
		part := api.Plane{W: p.W, H: end - y, P: p.P[y*p.W : end*p.W]}
		s, e := bits.Pack(part.P, r.Depth)
		if r.Kind != 0 {
			s, e = diff.Write(part, r.Kind, r.Lens)
		}
		if e != api.OK {
			t.Fatalf("kind %d: %d", r.Kind, e)
		}
		l = append(l, s)
	}
	return l
}

// files of many kinds, depths and sizes, each with its plane.
func files(tell func(r api.Raw, p api.Plane)) {
	next := drawn(77)
	for kind := range 8 {
		for depth := 1; depth <= 16; depth++ {
			for _, size := range [][2]int{{1, 1}, {2, 3}, {1 + next(10), 1 + next(10)}, {1 + next(63), 1}, {1, 1 + next(63)}} {
				r := api.Raw{W: size[0], H: size[1], Depth: depth, Kind: kind, Rows: 1 + next(size[1]-1), Plan: plan()}
				r.Plan.Spots = []api.Spot{{X: next(r.W - 1), Y: next(r.H - 1)}, {X: r.W - 1, Y: r.H - 1}}[:next(2)]
				if kind > 0 {
					r.Lens = full
				}
				tell(r, drawnPlane(uint64(next(1<<20)), r.W, r.H, 1<<depth-1))
			}
		}
	}
}

func TestH2FillOfManyPlanes(t *testing.T) {
	files(func(r api.Raw, p api.Plane) {
		want := r
		want.Strips = stripsOf(t, r, p)
		if got, e := raw.Fill(r, p); e != api.OK || !sameFile(got, want) {
			t.Fatalf("%v of %v: %v %d, not %v", r, p, got, e, want)
		}
	})
}

func TestH2FillErrors(t *testing.T) {
	for kind, file := range []func() api.Raw{small, differing} {
		for i, f := range faults(kind) {
			r := file()
			f.make(&r)
			want := f.want
			if f.number == 4 || f.number == 6 { // what strips there were counts for nothing
				want = api.OK
			}
			got, e := raw.Fill(r, samples())
			if e != want || e != api.OK && !sameFile(got, api.Raw{}) {
				t.Errorf("kind %d, fault %d: %v %d, not %d", kind, i, got, e, want)
			}
			if want != api.OK {
				if got, e := raw.Fill(r, api.Plane{}); e != want || !sameFile(got, api.Raw{}) {
					t.Errorf("kind %d, fault %d, no plane: %v %d, not %d", kind, i, got, e, want)
				}
			}
		}
	}
}

func TestH2FillWithPlanesThatAreNotRight(t *testing.T) {
	for _, p := range []api.Plane{
		{},
		{W: 2, H: 3, P: make([]int, 5)},
		{W: 2, H: 3, P: make([]int, 7)},
		{W: 3, H: 2, P: make([]int, 6)},
		{W: 1, H: 3, P: make([]int, 3)},
		{W: 2, H: 2, P: make([]int, 4)},
		{W: 2, H: 4, P: make([]int, 8)},
		{W: 2, H: 3, P: []int{0, 0, 0, 0, 0, -1}},
		{W: 2, H: 3, P: []int{0, 0, 0, 0, 0, 8}},
		{W: 2, H: 3, P: []int{65536, 0, 0, 0, 0, 0}},
	} {
		for i, r := range []api.Raw{small(), differing(), small()} {
			r.Depth = 3
			if i == 2 { // the plane's error is told ahead of a class that has no word
				r.Kind, r.Lens = 1, []int{1}
			}
			if got, e := raw.Fill(r, p); e != api.ErrForm || !sameFile(got, api.Raw{}) {
				t.Errorf("file %d, %v: %v %d", i, p, got, e)
			}
		}
	}
	r := differing()
	for depth := 1; depth <= 16; depth++ {
		for _, kind := range []int{0, 1, 7} {
			r.Kind, r.Depth, r.Lens = kind, depth, full
			if kind == 0 {
				r.Lens = nil
			}
			p := samples()
			for i := range p.P {
				p.P[i] = 1<<depth - 1
			}
			if _, e := raw.Fill(r, p); e != api.OK {
				t.Errorf("kind %d, depth %d, %v: %d", kind, depth, p.P, e)
			}
			p.P[3]++
			if got, e := raw.Fill(r, p); e != api.ErrForm || !sameFile(got, api.Raw{}) {
				t.Errorf("kind %d, depth %d, %v: %v %d", kind, depth, p.P, got, e)
			}
		}
	}
}

func TestH2FillWithoutAWord(t *testing.T) {
	r := differing()
	// The first sample of each strip, 1 and 5, is below the guess 2^15 by a number of class 15; the next ones are of class 1, and 2.
	for _, c := range []struct {
		class int
		want  api.Errno
	}{{15, api.ErrNone}, {1, api.ErrNone}, {2, api.ErrNone}, {0, api.OK}, {14, api.OK}, {16, api.OK}} {
		r.Lens = slices.Clone(full)
		r.Lens[c.class] = 0
		p := api.Plane{W: 2, H: 3, P: []int{1, 2, 3, 4, 5, 7}}
		got, e := raw.Fill(r, p)
		if e != c.want || e != api.OK && !sameFile(got, api.Raw{}) {
			t.Errorf("class %d: %v %d, not %d", c.class, got, e, c.want)
		}
	}
}

// form: a file's bytes, put together by the chapter's words.
func form(r api.Raw) string {
	var b []byte
	number := func(l ...int) {
		for _, n := range l {
			if n < 0 {
				n += 1 << 32
			}
			b = append(b, byte(n/(1<<24)), byte(n/(1<<16)%256), byte(n/256%256), byte(n%256))
		}
	}
	text := func(s string) {
		number(len(s))
		b = append(b, s...)
	}
	text("dark")
	number(r.W, r.H, r.Depth, r.Kind, r.Rows, len(r.Lens))
	number(r.Lens...)
	number(len(r.Strips))
	for _, s := range r.Strips {
		text(s)
	}
	n := r.Plan
	number(n.Phase, n.Black[0], n.Black[1], n.Black[2], n.Black[3], n.White, len(n.Spots))
	for _, s := range n.Spots {
		number(s.X, s.Y)
	}
	number(n.Gains[:]...)
	number(n.Matrix[:]...)
	number(len(n.Curve))
	for _, c := range n.Curve {
		number(c.X, c.Y)
	}
	number(n.Amount)
	return string(b)
}

func TestH3WriteByHand(t *testing.T) {
	want := "\x00\x00\x00\x04dark" +
		"\x00\x00\x00\x02" + "\x00\x00\x00\x03" + "\x00\x00\x00\x03" + "\x00\x00\x00\x00" + "\x00\x00\x00\x02" +
		"\x00\x00\x00\x00" +
		"\x00\x00\x00\x02" + "\x00\x00\x00\x02\x29\xc0" + "\x00\x00\x00\x01\xb8" +
		"\x00\x00\x00\x03" + "\x00\x00\x00\x0b\x00\x00\x00\x0c\x00\x00\x00\x0d\x00\x00\x00\x0e" + "\x00\x00\xea\x60" +
		"\x00\x00\x00\x02" + "\x00\x00\x00\x01\x00\x00\x00\x00" + "\x00\x00\x00\x00\x00\x00\x00\x02" +
		"\x00\x00\x01\xf4\x00\x00\x01\x00\x00\x00\x01\x2c" +
		"\x00\x00\x17\x70\xff\xff\xfa\x24\xff\xff\xfe\x70" + "\xff\xff\xfc\xe0\x00\x00\x15\x7c\xff\xff\xfd\xa4" + "\xff\xff\xff\xff\xff\xff\x80\x00\x00\x00\x80\x00" +
		"\x00\x00\x00\x03" + "\x00\x00\x00\x00\x00\x00\x00\x07" + "\x00\x00\x03\xe8\x00\x00\x0f\xa0" + "\x00\x00\xff\xff\x00\x00\xfd\xe8" +
		"\x00\x00\x04\x00"
	if s, e := raw.Write(small()); e != api.OK || s != want {
		t.Errorf("%x %d, not\n%x", s, e, want)
	}
	if r, e := raw.Read(want); e != api.OK || !sameFile(r, small()) {
		t.Errorf("%v %d, not %v", r, e, small())
	}
}

func TestH3TheBytesOfManyFiles(t *testing.T) {
	files(func(r api.Raw, p api.Plane) {
		r.Strips = stripsOf(t, r, p)
		want := form(r)
		if s, e := raw.Write(r); e != api.OK || s != want {
			t.Fatalf("%v: %x %d, not %x", r, s, e, want)
		}
		if got, e := raw.Read(want); e != api.OK || !sameFile(got, r) {
			t.Fatalf("%x: %v %d, not %v", want, got, e, r)
		}
	})
}

// notRead: whether Read tells that there is no such file.
func notRead(t *testing.T, s string, about ...any) {
	t.Helper()
	if r, e := raw.Read(s); e != api.ErrForm || !sameFile(r, api.Raw{}) {
		t.Errorf("%v: it is read as %v %d", about, r, e)
	}
}

func TestH3ReadOfTooFewBytesOrTooMany(t *testing.T) {
	for i, r := range []api.Raw{small(), differing()} {
		s := form(r)
		for size := range len(s) {
			notRead(t, s[:size], "file", i, "of", size, "bytes")
			notRead(t, s[size+1:], "file", i, "without", size+1, "bytes")
		}
		notRead(t, s+"\x00", "file", i, "and a byte more")
		notRead(t, s+s, "file", i, "twice")
		notRead(t, s[4:], "file", i, "without how long its first text is")
	}
}

// fourBytes: whether the numbers can be told by as many.
func fourBytes(l ...int) bool {
	return !slices.ContainsFunc(l, func(n int) bool { return n != int(int32(n)) })
}

func TestH3ReadOfFilesThatAreNotRight(t *testing.T) {
	for kind, file := range []func() api.Raw{small, differing} {
		for i, f := range faults(kind) {
			r := file()
			f.make(&r)
			if fourBytes(r.W, r.H, r.Depth, r.Kind, r.Rows) {
				notRead(t, form(r), "kind", kind, "fault", i)
			}
		}
	}
}

// Lists and texts that are told to be very long, or of fewer than no elements, wherever a number stands.
func TestH3ReadOfOtherNumbers(t *testing.T) {
	for _, r := range []api.Raw{small(), differing()} {
		s := form(r)
		for at := 0; at+4 <= len(s); at++ {
			for _, n := range []string{"\xff\xff\xff\xff", "\x7f\xff\xff\xff", "\x80\x00\x00\x00", "\x00\xff\xff\xff", "\x00\x00\x00\x00", "\x00\x00\x00\x40", "\x00\x01\x00\x00"} {
				readAsWritten(t, s[:at]+n+s[at+4:])
			}
		}
	}
}

// readAsWritten: whether the bytes are those of the file as which they are read, or of none.
func readAsWritten(t *testing.T, s string) bool {
	t.Helper()
	r, e := raw.Read(s)
	if e != api.OK {
		if e != api.ErrForm || !sameFile(r, api.Raw{}) {
			t.Errorf("%x: %v %d", s, r, e)
		}
		return false
	}
	if form(r) != s || raw.Check(r) != api.OK {
		t.Errorf("%x is read as %v", s, r)
	}
	return true
}

// Of all files that are another one but for one byte just those are read that are written so.
func TestH4NothingElseIsRead(t *testing.T) {
	for i, r := range []api.Raw{small(), differing()} {
		s := form(r)
		found := 0
		for at := range len(s) {
			for v := range 256 {
				b := []byte(s)
				b[at] = byte(v)
				if readAsWritten(t, string(b)) {
					found++
				}
			}
		}
		if found <= len(s) || found > len(s)*128 {
			t.Errorf("file %d: %d are read", i, found)
		}
	}
	next := drawn(5)
	for range 3000 {
		b := make([]byte, next(300))
		for i := range b {
			b[i] = byte(next(255) * next(1) * next(1))
		}
		notRead(t, string(b), b)
		notRead(t, "\x00\x00\x00\x04dark"+string(b), b)
	}
}

func TestH4WhatIsWrittenIsRead(t *testing.T) {
	files(func(r api.Raw, p api.Plane) {
		filled, a := raw.Fill(r, p)
		if q, e := raw.Plane(filled); a != api.OK || e != api.OK || !samePlane(p, q) {
			t.Fatalf("Plane of Fill of %v with %v: %v %d", r, p, q, e)
		}
		s, b := raw.Write(filled)
		back, c := raw.Read(s)
		if b != api.OK || c != api.OK || !sameFile(back, filled) {
			t.Fatalf("%v is read as %v %d", filled, back, c)
		}
		if q, e := raw.Plane(back); e != api.OK || !samePlane(p, q) {
			t.Fatalf("%v is read as %v %d", p, q, e)
		}
	})
}

func TestH4TheGreatestFile(t *testing.T) {
	for kind := range 8 {
		r := api.Raw{W: 64, H: 64, Depth: 16, Kind: kind, Rows: 64, Plan: plan()}
		if kind > 0 {
			r.Lens = full
		}
		for _, rows := range []int{1, 5, 64} {
			r.Rows = rows
			p := drawnPlane(uint64(kind), 64, 64, 65535)
			filled, a := raw.Fill(r, p)
			s, b := raw.Write(filled)
			back, c := raw.Read(s)
			if q, e := raw.Plane(back); a != api.OK || b != api.OK || c != api.OK || e != api.OK || !samePlane(p, q) {
				t.Errorf("kind %d, %d rows a strip: %d %d %d %d", kind, rows, a, b, c, e)
			}
		}
	}
}

// handed: a file with room behind each of its lists, and those with the room.
func handed() (r api.Raw, lens []int, strips []string, spots []api.Spot, curve []api.Point) {
	r = differing()
	lens, strips = append(slices.Clone(full), 99), append(r.Strips, "room")
	spots, curve = append(r.Plan.Spots, api.Spot{X: 99}), append(r.Plan.Curve, api.Point{X: 99})
	r.Lens, r.Strips = lens[:len(full)], strips[:2]
	r.Plan.Spots, r.Plan.Curve = spots[:2], curve[:3]
	return r, lens, strips, spots, curve
}

func TestP2WhatIsHandedInIsOnlyRead(t *testing.T) {
	r, lens, strips, spots, curve := handed()
	_, oldLens, oldStrips, oldSpots, oldCurve := handed()
	room := append(samples().P, 99)
	p := api.Plane{W: 2, H: 3, P: room[:6]}
	raw.Check(r)
	raw.Plane(r)
	raw.Fill(r, p)
	raw.Write(r)
	if !slices.Equal(lens, oldLens) || !slices.Equal(strips, oldStrips) || !slices.Equal(spots, oldSpots) || !slices.Equal(curve, oldCurve) || !slices.Equal(room, append(samples().P, 99)) {
		t.Errorf("what was handed in is %v %v %v %v %v now", lens, strips, spots, curve, room)
	}
}

func TestP2AnAnswerIsTheCallers(t *testing.T) {
	r, _, _, _, _ := handed()
	p := samples()
	first, _ := raw.Fill(r, p)
	read, _ := raw.Read(form(r))
	plane, _ := raw.Plane(r)
	for _, f := range []api.Raw{first, read} {
		clear(f.Lens[:cap(f.Lens)])
		clear(f.Strips[:cap(f.Strips)])
		clear(f.Plan.Spots[:cap(f.Plan.Spots)])
		clear(f.Plan.Curve[:cap(f.Plan.Curve)])
	}
	clear(plane.P)
	if want, _, _, _, _ := handed(); !sameFile(r, want) || !samePlane(p, samples()) {
		t.Errorf("what was handed in is %v and %v after the answers were changed", r, p)
	}
	if again, _ := raw.Plane(r); !samePlane(again, samples()) {
		t.Errorf("Plane answers %v after its first answer was changed", again)
	}
	kept, _ := raw.Fill(r, p)
	clear(p.P)
	clear(r.Lens)
	clear(r.Plan.Spots)
	clear(r.Plan.Curve)
	if !sameFile(kept, differing()) {
		t.Errorf("Fill's answer is %v after what was handed in was changed", kept)
	}
}
