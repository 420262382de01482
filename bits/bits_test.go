package bits_test

import (
	"fmt"
	"slices"
	"strings"
	"testing"

	"darkslide/api"
	"darkslide/bits"
)

const mostSamples = api.MaxSide * api.MaxSide

func TestA1BitsOfEachByte(t *testing.T) {
	for n := range 256 {
		want := fmt.Sprintf("%08b", n)
		if got := bits.Bits(string([]byte{byte(n)})); got != want {
			t.Errorf("Bits of %d: %q, not %q", n, got, want)
		}
	}
}

func TestA1BitsOfTexts(t *testing.T) {
	for s, want := range map[string]string{
		"":         "",
		"a":        "01100001",
		"\x80\x01": "1000000000000001",
		"\xff\x00": "1111111100000000",
	} {
		if got := bits.Bits(s); got != want {
			t.Errorf("Bits of %q: %q, not %q", s, got, want)
		}
	}
}

func TestA1Bytes(t *testing.T) {
	for _, c := range []struct {
		b, want string
		e       api.Errno
	}{
		{"", "", api.OK},
		{"0", "\x00", api.OK},
		{"1", "\x80", api.OK},
		{"0000001", "\x02", api.OK},
		{"00000001", "\x01", api.OK},
		{"000000011", "\x01\x80", api.OK},
		{"0110000101100010", "ab", api.OK},
		{"2", "", api.ErrForm},
		{"/", "", api.ErrForm},
		{"\x00", "", api.ErrForm},
		{"\x01", "", api.ErrForm},
		{" 01", "", api.ErrForm},
		{"01x", "", api.ErrForm},
		{strings.Repeat("0", 100) + "\xff", "", api.ErrForm},
	} {
		if got, e := bits.Bytes(c.b); got != c.want || e != c.e {
			t.Errorf("Bytes of %q: %q %d, not %q %d", c.b, got, e, c.want, c.e)
		}
	}
}

func TestA1NumberAndValue(t *testing.T) {
	for size := range api.MaxDepth + 1 {
		for _, n := range []int{0, 1, 2, 5, 1<<size/2 - 1, 1 << size / 2, 1<<size - 1} {
			if n < 0 || n >= 1<<size {
				continue
			}
			want := ""
			if size > 0 {
				want = fmt.Sprintf("%0*b", size, n)
			}
			if got, e := bits.Number(n, size); got != want || e != api.OK {
				t.Errorf("Number of %d with %d bits: %q %d, not %q", n, size, got, e, want)
			}
			if got, e := bits.Value(want); got != n || e != api.OK {
				t.Errorf("Value of %q: %d %d, not %d", want, got, e, n)
			}
		}
	}
}

func TestA1NumberOutOfBounds(t *testing.T) {
	const far = 1<<63 - 1
	for _, c := range [][2]int{{0, -1}, {0, 17}, {1, 0}, {-1, 0}, {-1, 16}, {2, 1}, {8, 3}, {1 << 16, 16}, {1 << 16, 17}, {far, 16}, {-far - 1, 16}, {0, far}, {0, -far - 1}, {0, 64}} {
		if got, e := bits.Number(c[0], c[1]); got != "" || e != api.ErrRange {
			t.Errorf("Number of %d with %d bits: %q %d", c[0], c[1], got, e)
		}
	}
}

func TestA1ValueErrors(t *testing.T) {
	for b, want := range map[string]api.Errno{
		"2":                           api.ErrForm,
		"01 ":                         api.ErrForm,
		strings.Repeat("0", 17):       api.ErrRange,
		strings.Repeat("1", 17):       api.ErrRange,
		strings.Repeat("1", 17) + "x": api.ErrForm,
	} {
		if got, e := bits.Value(b); got != 0 || e != want {
			t.Errorf("Value of %q: %d %d, not %d", b, got, e, want)
		}
	}
}

func TestA2Pack(t *testing.T) {
	full := make([]int, mostSamples)
	for _, c := range []struct {
		l     []int
		depth int
		want  string
		e     api.Errno
	}{
		{[]int{1, 2, 3}, 3, "\x29\x80", api.OK},
		{nil, 1, "", api.OK},
		{[]int{}, 16, "", api.OK},
		{[]int{1}, 1, "\x80", api.OK},
		{[]int{65535, 258}, 16, "\xff\xff\x01\x02", api.OK},
		{full, 16, strings.Repeat("\x00", 2*mostSamples), api.OK},
		{full, 1, strings.Repeat("\x00", mostSamples/8), api.OK},
		{nil, 0, "", api.ErrRange},
		{nil, -1, "", api.ErrRange},
		{nil, 17, "", api.ErrRange},
		{[]int{2}, 1, "", api.ErrRange},
		{[]int{0, -1}, 5, "", api.ErrRange},
		{[]int{65536}, 16, "", api.ErrRange},
		{append([]int{0}, full...), 1, "", api.ErrMany},
		{append([]int{0}, full...), 0, "", api.ErrRange},
		{append([]int{-1}, full...), 1, "", api.ErrMany},
	} {
		if got, e := bits.Pack(c.l, c.depth); got != c.want || e != c.e {
			t.Errorf("Pack of %d samples with %d bits: %x %d, not %x %d", len(c.l), c.depth, got, e, c.want, c.e)
		}
	}
}

func TestA2Unpack(t *testing.T) {
	const far = 1<<63 - 1
	for _, c := range []struct {
		s        string
		depth, n int
		want     []int
		e        api.Errno
	}{
		{"\x29\x80", 3, 3, []int{1, 2, 3}, api.OK},
		{"", 3, 0, nil, api.OK},
		{"\xff\xff", 16, 1, []int{65535}, api.OK},
		{strings.Repeat("\x00", 2*mostSamples), 16, mostSamples, make([]int, mostSamples), api.OK},
		{"", 0, 0, nil, api.ErrRange},
		{"", 17, 0, nil, api.ErrRange},
		{"", 3, -1, nil, api.ErrRange},
		{"", 3, -far - 1, nil, api.ErrRange},
		{"", 0, mostSamples + 1, nil, api.ErrRange},
		{"", 3, mostSamples + 1, nil, api.ErrMany},
		{"", 3, far, nil, api.ErrMany},
		{"\x29\x80", 3, 2, nil, api.ErrForm},
		{"\x29", 3, 3, nil, api.ErrForm},
		{"\x29\x80\x00", 3, 3, nil, api.ErrForm},
		{"\x29\x81", 3, 3, nil, api.ErrForm},
		{"\x29\xc0", 3, 3, nil, api.ErrForm},
		{"\x00", 3, 0, nil, api.ErrForm},
		{"", 3, 1, nil, api.ErrForm},
	} {
		if got, e := bits.Unpack(c.s, c.depth, c.n); !slices.Equal(got, c.want) || e != c.e {
			t.Errorf("Unpack of %x, %d samples with %d bits: %v %d, not %v %d", c.s, c.n, c.depth, got, e, c.want, c.e)
		}
	}
}

func TestA2UnpackOfALongText(t *testing.T) {
	if got, e := bits.Unpack(strings.Repeat("\x00", 1<<26), 16, mostSamples); got != nil || e != api.ErrForm {
		t.Errorf("it is %d samples, %d", len(got), e)
	}
}

func TestA3UnpackOfPack(t *testing.T) {
	for depth := 1; depth <= api.MaxDepth; depth++ {
		for n := range 40 {
			l := make([]int, n)
			for i := range l {
				l[i] = (i*40503 + n*977 + 1) * 31 % (1 << depth)
			}
			s, e := bits.Pack(l, depth)
			if e != api.OK {
				t.Fatalf("Pack of %v with %d bits: %d", l, depth, e)
			}
			if got, e := bits.Unpack(s, depth, n); !slices.Equal(got, l) || e != api.OK {
				t.Errorf("%v with %d bits is unpacked as %v %d", l, depth, got, e)
			}
		}
	}
}

// Of all texts of up to two bytes just those are unpacked that some list is packed as.
func TestA3PackOfUnpack(t *testing.T) {
	for _, c := range [][2]int{{1, 0}, {1, 1}, {1, 8}, {1, 9}, {2, 3}, {3, 3}, {3, 5}, {5, 2}, {7, 2}, {8, 1}, {8, 2}, {13, 1}, {16, 1}} {
		depth, n := c[0], c[1]
		found := 0
		for size := range 3 {
			for v := range 1 << (8 * size) {
				s := string([]byte{byte(v >> 8), byte(v)}[2-size:])
				l, e := bits.Unpack(s, depth, n)
				if e == api.ErrForm && l == nil {
					continue
				}
				found++
				if back, f := bits.Pack(l, depth); back != s || e != api.OK || f != api.OK || len(l) != n {
					t.Fatalf("%x, %d samples with %d bits: %v %d, packed %x %d", s, n, depth, l, e, back, f)
				}
			}
		}
		if found != 1<<(depth*n) {
			t.Errorf("%d samples with %d bits: %d texts are unpacked, not %d", n, depth, found, 1<<(depth*n))
		}
	}
}

func TestP2WhatIsHandedInIsOnlyRead(t *testing.T) {
	room := []int{1, 2, 3, 99, 99}
	bits.Pack(room[:3], 3)
	if !slices.Equal(room, []int{1, 2, 3, 99, 99}) {
		t.Errorf("Pack made %v of it", room)
	}
	one, _ := bits.Unpack("\x29\x80", 3, 3)
	one[0] = 7
	if two, _ := bits.Unpack("\x29\x80", 3, 3); !slices.Equal(two, []int{1, 2, 3}) {
		t.Errorf("Unpack answers %v after its first answer was changed", two)
	}
}
