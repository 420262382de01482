// Package wordbook looks words up, both ways: a number's word, and the number whose word some bits begin with.
package wordbook

import (
	"slices"

	"darkslide/api"
)

// entry: a text that a word begins with; whole, if it is the word itself, of that number.
type entry struct {
	number int
	whole  bool
}

// Book has the words of a code, none of which is the beginning of another one.
type Book struct {
	words   []string
	entries map[string]entry
}

// New makes the book of these words, by their numbers; an empty word is none.
func New(words []string) Book {
	b := Book{words: slices.Clone(words), entries: map[string]entry{}}
	for n, word := range words {
		if word == "" {
			continue
		}
		for size := 1; size < len(word); size++ {
			b.entries[word[:size]] = entry{}
		}
		b.entries[word] = entry{number: n, whole: true}
	}
	return b
}

// Word: the number's word. ErrNone, if it has none.
func (b Book) Word(number int) (string, api.Errno) {
	if number < 0 || number >= len(b.words) || b.words[number] == "" {
		return "", api.ErrNone
	}
	return b.words[number], api.OK
}

// Next takes bits until they are a word: its number. ErrShort, if they end ahead of that; ErrNone, if no word begins so.
func (b Book) Next(take func() (byte, bool)) (int, api.Errno) {
	// A word has at most MaxWord bits: the buffer never grows, and asking a map by string(taken) makes no text.
	taken := make([]byte, 0, api.MaxWord)
	for {
		bit, ok := take()
		if !ok {
			return 0, api.ErrShort
		}
		taken = append(taken, bit)
		found, ok := b.entries[string(taken)]
		if !ok {
			return 0, api.ErrNone
		}
		if found.whole {
			return found.number, api.OK
		}
	}
}

// Taker gives two functions on one row of bits: take takes its next bit, false, if none is left; left tells what was not taken yet.
func Taker(b string) (take func() (byte, bool), left func() string) {
	at := 0
	take = func() (byte, bool) {
		if at == len(b) {
			return 0, false
		}
		at++
		return b[at-1], true
	}
	left = func() string { return b[at:] }
	return take, left
}
