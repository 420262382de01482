// Package bits: rows of bits: see doc/01-bits.md.
package bits

import (
	"strings"

	"darkslide/api"
)

const mostSamples = api.MaxSide * api.MaxSide

// Bits: eight of each byte, the highest first.
func Bits(s string) string {
	var b strings.Builder
	b.Grow(8 * len(s))
	for i := range len(s) {
		for k := 7; k >= 0; k-- {
			b.WriteByte('0' + s[i]>>k&1)
		}
	}
	return b.String()
}

// Bytes: the bytes whose bits these are, with as many 0 behind as the last byte wants.
func Bytes(b string) (string, api.Errno) {
	if !allBits(b) {
		return "", api.ErrForm
	}
	out := make([]byte, byteCount(len(b)))
	for i := range len(b) {
		out[i/8] |= (b[i] - '0') << (7 - i%8)
	}
	return string(out), api.OK
}

// Number: n as size bits, the highest first.
func Number(n, size int) (string, api.Errno) {
	if size < 0 || size > api.MaxDepth || n < 0 || n >= 1<<size {
		return "", api.ErrRange
	}
	out := make([]byte, size)
	for i := range out {
		out[size-1-i] = '0' + byte(n>>i&1)
	}
	return string(out), api.OK
}

// Value: the number of which these are the bits.
func Value(b string) (int, api.Errno) {
	if !allBits(b) {
		return 0, api.ErrForm
	}
	if len(b) > api.MaxDepth {
		return 0, api.ErrRange
	}
	n := 0
	for i := range len(b) {
		n = 2*n + int(b[i]-'0')
	}
	return n, api.OK
}

// Pack: each sample as depth bits, one behind the other, as bytes.
func Pack(l []int, depth int) (string, api.Errno) {
	if !isDepth(depth) {
		return "", api.ErrRange
	}
	if len(l) > mostSamples {
		return "", api.ErrMany
	}
	var b strings.Builder
	for _, n := range l {
		word, e := Number(n, depth)
		if e != api.OK {
			return "", e
		}
		b.WriteString(word)
	}
	return Bytes(b.String())
}

// Unpack: the n samples of which Pack with that depth makes these bytes.
func Unpack(s string, depth, n int) ([]int, api.Errno) {
	if !isDepth(depth) || n < 0 {
		return nil, api.ErrRange
	}
	if n > mostSamples {
		return nil, api.ErrMany
	}
	// Asked ahead of Bits, so that a text that is far too long is not made eight times as long.
	if len(s) != byteCount(n*depth) {
		return nil, api.ErrForm
	}
	left := Bits(s)
	take := func(size int) string {
		taken := left[:size]
		left = left[size:]
		return taken
	}
	l := make([]int, n)
	for i := range l {
		l[i], _ = Value(take(depth)) // no error: these are bits, and no more than MaxDepth
	}
	// Pack fills the last byte with 0 alone: a 1 there is a text that Pack never makes.
	if strings.Contains(left, "1") {
		return nil, api.ErrForm
	}
	return l, api.OK
}

func allBits(b string) bool {
	for i := range len(b) {
		if b[i] != '0' && b[i] != '1' {
			return false
		}
	}
	return true
}

func isDepth(depth int) bool {
	return depth >= 1 && depth <= api.MaxDepth
}

// byteCount: how many bytes hold so many bits.
func byteCount(size int) int {
	return (size + 7) / 8
}
