package shot

import (
	"strconv"
	"strings"

	"darkslide/api"
	"darkslide/right"
)

const (
	mark     = "P6\n"
	ends     = " \n\n" // what stands behind each of a head's numbers
	deepMost = api.Top
	flatMost = 255
	flatStep = deepMost / flatMost // so that the most of one byte is read as the most of two
)

// head is what stands ahead of the pixels: columns, rows, and the most that a part may be.
type head struct{ w, h, most int }

func newHead(w, h int, deep bool) head {
	if deep {
		return head{w: w, h: h, most: deepMost}
	}
	return head{w: w, h: h, most: flatMost}
}

func (h head) deep() bool {
	return h.most == deepMost
}

func (h head) isRight() bool {
	return right.Within(1, api.MaxSide, h.w, h.h) && (h.most == deepMost || h.most == flatMost)
}

// size: how many bytes the pixels take.
func (h head) size() int {
	parts := 3 * h.w * h.h
	if h.deep() {
		return 2 * parts
	}
	return parts
}

func (h head) text() string {
	text := mark
	for i, n := range [len(ends)]int{h.w, h.h, h.most} {
		text += strconv.Itoa(n) + ends[i:i+1]
	}
	return text
}

// headOf: the head that the bytes begin with, and what stands behind it; false, if they begin with none.
func headOf(s string) (head, string, bool) {
	h := guessed(s)
	if !h.isRight() {
		return head{}, "", false
	}
	// What would be written decides: so there is but one way to write a head.
	left, ok := strings.CutPrefix(s, h.text())
	return h, left, ok
}

// guessed: the only head that the bytes can begin with: its numbers are those that stand there, up to where they are none.
func guessed(s string) head {
	var numbers [len(ends)]int
	found := 0
reading:
	for i := len(mark); i < len(s); i++ {
		switch c := s[i]; {
		case c == ends[found]:
			found++
			if found == len(ends) {
				break reading
			}
		case c >= '0' && c <= '9' && numbers[found] <= deepMost: // no number is greater, and with ever more digits it would wrap round
			numbers[found] = 10*numbers[found] + int(c-'0')
		default:
			break reading
		}
	}
	return head{w: numbers[0], h: numbers[1], most: numbers[2]}
}
