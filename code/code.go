// Package code: codes: see doc/02-code.md.
package code

import (
	"strings"

	"darkslide/api"
	"darkslide/bits"
	"darkslide/wordbook"
)

const mostNumbers = api.MaxSide * api.MaxSide

// Check: whether there is a code with words of these lengths.
func Check(lens []int) api.Errno {
	if len(lens) < 1 || len(lens) > api.Words {
		return api.ErrMany
	}
	sum := 0
	for _, size := range lens {
		if size < 0 || size > api.MaxWord {
			return api.ErrRange
		}
		if size > 0 {
			sum += 1 << (api.MaxWord - size)
		}
	}
	if sum == 0 || sum > 1<<api.MaxWord {
		return api.ErrForm
	}
	return api.OK
}

// Words: each number's word, empty where it has none.
func Words(lens []int) ([]string, api.Errno) {
	if e := Check(lens); e != api.OK {
		return nil, e
	}
	words := make([]string, len(lens))
	next := 0
	for size := 1; size <= api.MaxWord; size++ {
		next *= 2
		for n := range lens {
			if lens[n] == size {
				words[n], _ = bits.Number(next, size) // no error: Check's sum leaves room for each word
				next++
			}
		}
	}
	return words, api.OK
}

// Write: the words of l, one behind the other.
func Write(lens []int, l []int) (string, api.Errno) {
	words, e := Words(lens)
	if e != api.OK {
		return "", e
	}
	if len(l) > mostNumbers {
		return "", api.ErrMany
	}
	book := wordbook.New(words)
	var b strings.Builder
	for _, n := range l {
		word, e := book.Word(n)
		if e != api.OK {
			return "", e
		}
		b.WriteString(word)
	}
	return b.String(), api.OK
}

// Read: the n numbers with whose words b begins, and what is behind them.
func Read(lens []int, b string, n int) ([]int, string, api.Errno) {
	words, e := Words(lens)
	if e != api.OK {
		return nil, "", e
	}
	if n < 0 || n > mostNumbers {
		return nil, "", api.ErrRange
	}
	// Value looks at all of b ahead of its length: its ErrForm tells of any byte that is no bit.
	if _, e := bits.Value(b); e == api.ErrForm {
		return nil, "", e
	}
	book := wordbook.New(words)
	take, left := wordbook.Taker(b)
	l := make([]int, n)
	for i := range l {
		l[i], e = book.Next(take)
		if e != api.OK {
			return nil, "", e
		}
	}
	// A copy: an answer shares no memory with what was handed in.
	return l, strings.Clone(left()), api.OK
}
