package wordbook_test

import (
	"testing"

	"darkslide/api"
	"darkslide/wordbook"
)

func TestWord(t *testing.T) {
	b := wordbook.New([]string{"0", "", "10"})
	for n, want := range map[int]string{0: "0", 2: "10"} {
		if got, e := b.Word(n); got != want || e != api.OK {
			t.Errorf("word of %d: %q %d, not %q", n, got, e, want)
		}
	}
	for _, n := range []int{-1, 1, 3} {
		if got, e := b.Word(n); got != "" || e != api.ErrNone {
			t.Errorf("word of %d: %q %d", n, got, e)
		}
	}
}

func TestNextTakesNoMoreThanAWord(t *testing.T) {
	b := wordbook.New([]string{"0", "", "10"})
	for _, c := range []struct {
		bits, left string
		n          int
		e          api.Errno
	}{{"01", "1", 0, api.OK}, {"100", "0", 2, api.OK}, {"", "", 0, api.ErrShort}, {"1", "", 0, api.ErrShort}, {"110", "0", 0, api.ErrNone}} {
		take, left := wordbook.Taker(c.bits)
		if n, e := b.Next(take); n != c.n || e != c.e || left() != c.left {
			t.Errorf("next of %q: %d %d, left %q, not %d %d, left %q", c.bits, n, e, left(), c.n, c.e, c.left)
		}
	}
}

func TestNextOfABookWithoutWords(t *testing.T) {
	take, _ := wordbook.Taker("0000")
	if n, e := wordbook.New([]string{""}).Next(take); n != 0 || e != api.ErrNone {
		t.Errorf("it is %d %d", n, e)
	}
}

func TestNewKeepsNothingOfItsWords(t *testing.T) {
	words := []string{"0", "1"}
	b := wordbook.New(words)
	words[0] = "x"
	if got, e := b.Word(0); got != "0" || e != api.OK {
		t.Errorf("word of 0: %q %d", got, e)
	}
}
