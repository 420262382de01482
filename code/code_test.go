package code_test

import (
	"slices"
	"strings"
	"testing"

	"darkslide/api"
	"darkslide/code"
)

const mostNumbers = api.MaxSide * api.MaxSide

// smallCodes: all lists of one to four lengths, each from 0 to 4.
func smallCodes() [][]int {
	var all [][]int
	row := [][]int{nil}
	for range 4 {
		var longer [][]int
		for _, lens := range row {
			for size := range 5 {
				longer = append(longer, append(slices.Clone(lens), size))
			}
		}
		row = longer
		all = append(all, row...)
	}
	return all
}

// texts: all rows of up to most bits.
func texts(most int) []string {
	all := []string{""}
	for at := 0; len(all[at]) < most; at++ {
		all = append(all, all[at]+"0", all[at]+"1")
	}
	return all
}

// begins: whether one of the words is the beginning of the other one.
func begins(one, two string) bool {
	return strings.HasPrefix(one, two) || strings.HasPrefix(two, one)
}

// canChoose: whether words of these lengths can be chosen beside the chosen ones, none the beginning of another one.
func canChoose(lens []int, chosen []string) bool {
	if len(lens) == 0 {
		return len(chosen) > 0
	}
	if lens[0] == 0 {
		return canChoose(lens[1:], chosen)
	}
	for _, word := range texts(lens[0]) {
		free := len(word) == lens[0]
		for _, other := range chosen {
			free = free && !begins(word, other)
		}
		if free && canChoose(lens[1:], append(slices.Clone(chosen), word)) {
			return true
		}
	}
	return false
}

func TestB1Check(t *testing.T) {
	for _, c := range []struct {
		lens []int
		want api.Errno
	}{
		{nil, api.ErrMany},
		{[]int{}, api.ErrMany},
		{make([]int, 18), api.ErrMany},
		{slices.Repeat([]int{-1}, 18), api.ErrMany},
		{slices.Repeat([]int{5}, 17), api.OK},
		{[]int{0}, api.ErrForm},
		{make([]int, 17), api.ErrForm},
		{[]int{1}, api.OK},
		{[]int{15}, api.OK},
		{[]int{0, 15}, api.OK},
		{[]int{16}, api.ErrRange},
		{[]int{-1}, api.ErrRange},
		{[]int{1 << 62}, api.ErrRange},
		{[]int{-1 << 62}, api.ErrRange},
		{[]int{1, 1, 1, 16}, api.ErrRange},
		{[]int{0, 0, -1}, api.ErrRange},
		{[]int{1, 1}, api.OK},
		{[]int{1, 1, 1}, api.ErrForm},
		{[]int{1, 1, 15}, api.ErrForm},
		{[]int{1, 2, 3, 4, 5, 6, 7, 8, 9, 10, 11, 12, 13, 14, 15, 15}, api.OK},
		{[]int{1, 2, 3, 4, 5, 6, 7, 8, 9, 10, 11, 12, 13, 14, 15, 15, 15}, api.ErrForm},
		{slices.Repeat([]int{4}, 16), api.OK},
		{slices.Repeat([]int{4}, 17), api.ErrForm},
	} {
		if got := code.Check(c.lens); got != c.want {
			t.Errorf("Check of %v: %d, not %d", c.lens, got, c.want)
		}
	}
}

func TestB1CheckTellsWhetherThereAreSuchWords(t *testing.T) {
	for _, lens := range smallCodes() {
		want := api.ErrForm
		if canChoose(lens, nil) {
			want = api.OK
		}
		if got := code.Check(lens); got != want {
			t.Errorf("Check of %v: %d, not %d", lens, got, want)
		}
	}
}

func TestB1IsToldFirst(t *testing.T) {
	for _, c := range []struct {
		lens []int
		want api.Errno
	}{{nil, api.ErrMany}, {[]int{16}, api.ErrRange}, {[]int{0}, api.ErrForm}, {[]int{1, 1, 2}, api.ErrForm}} {
		if w, e := code.Words(c.lens); w != nil || e != c.want {
			t.Errorf("Words of %v: %q %d, not %d", c.lens, w, e, c.want)
		}
		if b, e := code.Write(c.lens, slices.Repeat([]int{-1}, mostNumbers+1)); b != "" || e != c.want {
			t.Errorf("Write with %v: %q %d, not %d", c.lens, b, e, c.want)
		}
		if l, b, e := code.Read(c.lens, "2", -1); l != nil || b != "" || e != c.want {
			t.Errorf("Read with %v: %v %q %d, not %d", c.lens, l, b, e, c.want)
		}
	}
}

func TestB2Words(t *testing.T) {
	for _, c := range []struct {
		lens []int
		want []string
	}{
		{[]int{1, 2, 2}, []string{"0", "10", "11"}},
		{[]int{1}, []string{"0"}},
		{[]int{2, 2, 1}, []string{"10", "11", "0"}},
		{[]int{3, 0, 1, 0}, []string{"100", "", "0", ""}},
		{[]int{15, 1, 15}, []string{"100000000000000", "0", "100000000000001"}},
		{[]int{4, 2, 3, 2, 5, 5, 2}, []string{"1110", "00", "110", "01", "11110", "11111", "10"}},
	} {
		if got, e := code.Words(c.lens); !slices.Equal(got, c.want) || e != api.OK {
			t.Errorf("Words of %v: %q %d, not %q", c.lens, got, e, c.want)
		}
	}
}

func TestB2NoWordBeginsWithAnother(t *testing.T) {
	for _, lens := range append(smallCodes(), []int{1, 2, 3, 4, 5, 6, 7, 8, 9, 10, 11, 12, 13, 14, 15, 15}, slices.Repeat([]int{5}, 17)) {
		words, e := code.Words(lens)
		if e != api.OK {
			continue
		}
		for i, word := range words {
			if len(word) != lens[i] || strings.Trim(word, "01") != "" {
				t.Errorf("Words of %v: %q", lens, words)
			}
			for k, other := range words[:i] {
				if word != "" && other != "" && begins(word, other) {
					t.Errorf("Words of %v: %d and %d of %q", lens, k, i, words)
				}
			}
		}
	}
}

func TestB3Write(t *testing.T) {
	full := make([]int, mostNumbers)
	for _, c := range []struct {
		lens, l []int
		want    string
		e       api.Errno
	}{
		{[]int{1, 2, 2}, []int{2, 0, 1}, "11010", api.OK},
		{[]int{1, 2, 2}, nil, "", api.OK},
		{[]int{2}, full, strings.Repeat("00", mostNumbers), api.OK},
		{[]int{2}, append([]int{0}, full...), "", api.ErrMany},
		{[]int{2}, append([]int{-1}, full...), "", api.ErrMany},
		{[]int{1, 0, 2}, []int{0, 1}, "", api.ErrNone},
		{[]int{1, 0, 2}, []int{3}, "", api.ErrNone},
		{[]int{1, 0, 2}, []int{-1}, "", api.ErrNone},
		{[]int{1, 0, 2}, []int{1 << 62}, "", api.ErrNone},
	} {
		if got, e := code.Write(c.lens, c.l); got != c.want || e != c.e {
			t.Errorf("Write of %d numbers with %v: %q %d, not %q %d", len(c.l), c.lens, got, e, c.want, c.e)
		}
	}
}

func TestB3Read(t *testing.T) {
	for _, c := range []struct {
		lens []int
		b    string
		n    int
		l    []int
		rest string
		e    api.Errno
	}{
		{[]int{1, 2, 2}, "11010", 3, []int{2, 0, 1}, "", api.OK},
		{[]int{1, 2, 2}, "11010", 2, []int{2, 0}, "10", api.OK},
		{[]int{1, 2, 2}, "11010", 0, nil, "11010", api.OK},
		{[]int{1, 2, 2}, "", 0, nil, "", api.OK},
		{[]int{1}, strings.Repeat("0", mostNumbers+1), mostNumbers, make([]int, mostNumbers), "0", api.OK},
		{[]int{1}, "", -1, nil, "", api.ErrRange},
		{[]int{1}, "2", -1, nil, "", api.ErrRange},
		{[]int{1}, "2", mostNumbers + 1, nil, "", api.ErrRange},
		{[]int{1}, "", 1 << 62, nil, "", api.ErrRange},
		{[]int{1}, "2", 0, nil, "", api.ErrForm},
		{[]int{1}, "0/", 1, nil, "", api.ErrForm},
		{[]int{1}, "1\x00", 1, nil, "", api.ErrForm},
		{[]int{1}, "0" + strings.Repeat("1", 100) + "x", 1, nil, "", api.ErrForm},
		{[]int{1, 3, 3}, "", 1, nil, "", api.ErrShort},
		{[]int{1, 3, 3}, "0", 2, nil, "", api.ErrShort},
		{[]int{1, 3, 3}, "1", 1, nil, "", api.ErrShort},
		{[]int{1, 3, 3}, "10", 1, nil, "", api.ErrShort},
		{[]int{1, 3, 3}, "11", 1, nil, "", api.ErrNone},
		{[]int{1, 3, 3}, "1100000", 1, nil, "", api.ErrNone},
		{[]int{1, 3, 3}, "011", 2, nil, "", api.ErrNone},
		{[]int{15}, "00000000000000", 1, nil, "", api.ErrShort},
		{[]int{15}, "00000000000001", 1, nil, "", api.ErrNone},
	} {
		if l, rest, e := code.Read(c.lens, c.b, c.n); !slices.Equal(l, c.l) || rest != c.rest || e != c.e {
			t.Errorf("Read of %q, %d numbers with %v: %v %q %d, not %v %q %d", c.b, c.n, c.lens, l, rest, e, c.l, c.rest, c.e)
		}
	}
}

// readOne is B3's rule for one number, word by word.
func readOne(words []string, b string) (int, string, api.Errno) {
	e := api.ErrNone
	for n, word := range words {
		if word != "" && strings.HasPrefix(b, word) {
			return n, b[len(word):], api.OK
		}
		if word != "" && strings.HasPrefix(word, b) {
			e = api.ErrShort
		}
	}
	return 0, "", e
}

func TestB3ReadOfAllShortTexts(t *testing.T) {
	all := texts(5)
	for _, lens := range smallCodes() {
		words, e := code.Words(lens)
		if e != api.OK {
			continue
		}
		for _, b := range all {
			n, rest, f := readOne(words, b)
			var want []int
			if f == api.OK {
				want = []int{n}
			}
			if l, got, e := code.Read(lens, b, 1); !slices.Equal(l, want) || got != rest || e != f {
				t.Fatalf("Read of %q with %v: %v %q %d, not %v %q %d", b, lens, l, got, e, want, rest, f)
			}
		}
	}
}

func TestB4ReadOfWrite(t *testing.T) {
	for _, lens := range [][]int{{1}, {1, 1}, {0, 2, 2, 1}, {3, 3, 2, 2, 2}, {15, 15, 3}, {4, 2, 3, 2, 5, 5, 2}, {1, 2, 3, 4, 5, 6, 7, 8, 9, 10, 11, 12, 13, 14, 15, 15}} {
		for n := range 30 {
			var l []int
			for i := 0; len(l) < n; i++ {
				if k := (i*i + 7*i + n) % len(lens); lens[k] > 0 {
					l = append(l, k)
				}
			}
			b, e := code.Write(lens, l)
			if e != api.OK {
				t.Fatalf("Write of %v with %v: %d", l, lens, e)
			}
			for _, behind := range []string{"", "0", "1", "01101", strings.Repeat("1", 20), strings.Repeat("0", 20)} {
				if got, rest, e := code.Read(lens, b+behind, n); !slices.Equal(got, l) || rest != behind || e != api.OK {
					t.Errorf("%v with %v and %q behind is read as %v %q %d", l, lens, behind, got, rest, e)
				}
			}
		}
	}
}

func TestP2WhatIsHandedInIsOnlyRead(t *testing.T) {
	lens, l := []int{1, 2, 2, 99}, []int{2, 0, 1, 99}
	code.Check(lens[:3])
	words, _ := code.Words(lens[:3])
	code.Write(lens[:3], l[:3])
	read, _, _ := code.Read(lens[:3], "11010", 3)
	if !slices.Equal(lens, []int{1, 2, 2, 99}) || !slices.Equal(l, []int{2, 0, 1, 99}) {
		t.Errorf("what was handed in is %v and %v now", lens, l)
	}
	words[0], read[0], lens[0] = "1", 1, 2
	if again, _ := code.Words([]int{1, 2, 2}); !slices.Equal(again, []string{"0", "10", "11"}) {
		t.Errorf("Words answers %q after its first answer was changed", again)
	}
}
