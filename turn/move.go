package turn

import (
	"darkslide/api"
	"darkslide/grid"
	"darkslide/right"
)

// move is what a turn does, told by where a pixel comes from: columns and rows are swapped first, and then counted from the other end. So no two turns are the same move, and each move is a turn.
type move struct{ swap, mirrorX, mirrorY bool }

// moves: those of the turns from 1 on.
var moves = [8]move{
	{},
	{mirrorX: true},
	{mirrorX: true, mirrorY: true},
	{mirrorY: true},
	{swap: true},
	{swap: true, mirrorY: true},
	{swap: true, mirrorX: true, mirrorY: true},
	{swap: true, mirrorX: true},
}

func moveOf(how int) (move, api.Errno) {
	if !right.Within(1, len(moves), how) {
		return move{}, api.ErrRange
	}
	return moves[how-1], api.OK
}

// how: the number of the turn that does this.
func (m move) how() int {
	for i, one := range moves {
		if one == m {
			return i + 1
		}
	}
	return 0 // never: each move is a turn
}

// then: the move that does what this one does, and then next.
func (m move) then(next move) move {
	if m.swap {
		// What next mirrors are columns that were rows, and rows that were columns.
		next.mirrorX, next.mirrorY = next.mirrorY, next.mirrorX
	}
	return move{
		swap:    m.swap != next.swap,
		mirrorX: m.mirrorX != next.mirrorX,
		mirrorY: m.mirrorY != next.mirrorY,
	}
}

// back: the move by which all comes where it was.
func (m move) back() move {
	if m.swap {
		// What was mirrored ahead of the swap is mirrored behind it now.
		m.mirrorX, m.mirrorY = m.mirrorY, m.mirrorX
	}
	return m
}

// turned: the columns and rows that there are after the move.
func (m move) turned(old grid.Grid) grid.Grid {
	if m.swap {
		return grid.Grid{W: old.H, H: old.W}
	}
	return old
}

// source: the old place from which the pixel at s comes.
func (m move) source(old grid.Grid, s api.Spot) api.Spot {
	if m.swap {
		s = api.Spot{X: s.Y, Y: s.X}
	}
	if m.mirrorX {
		s.X = old.W - 1 - s.X
	}
	if m.mirrorY {
		s.Y = old.H - 1 - s.Y
	}
	return s
}
