package line

import (
	"darkslide/api"
	"darkslide/mosaic"
	"darkslide/sensor"
	"darkslide/tone"
)

// frame is what goes down the line: a plane until its missing colours are filled, a picture from then on.
type frame struct {
	plane   api.Plane
	picture api.Picture
}

// stage is one step of the line.
type stage interface {
	run(f frame) (frame, api.Errno)
}

// stages: those of the plan, in the line's order.
func stages(n api.Plan) []stage {
	return []stage{
		level{black: n.Black, white: n.White},
		repair{spots: n.Spots},
		gain{phase: n.Phase, gains: n.Gains},
		fill{phase: n.Phase},
		mix{matrix: n.Matrix},
		bend{curve: n.Curve},
		sharpen{amount: n.Amount},
	}
}

// develop sends the plane down the line.
func develop(n api.Plan, p api.Plane) (api.Picture, api.Errno) {
	f := frame{plane: p}
	for _, s := range stages(n) {
		next, e := s.run(f)
		if e != api.OK {
			return api.Picture{}, e
		}
		f = next
	}
	return f.picture, api.OK
}

type level struct {
	black [4]int
	white int
}

func (s level) run(f frame) (frame, api.Errno) {
	p, e := sensor.Level(f.plane, s.black, s.white)
	return frame{plane: p}, e
}

type repair struct{ spots []api.Spot }

func (s repair) run(f frame) (frame, api.Errno) {
	p, e := sensor.Repair(f.plane, s.spots)
	return frame{plane: p}, e
}

type gain struct {
	phase int
	gains [3]int
}

func (s gain) run(f frame) (frame, api.Errno) {
	p, e := sensor.Gain(f.plane, s.phase, s.gains)
	return frame{plane: p}, e
}

type fill struct{ phase int }

func (s fill) run(f frame) (frame, api.Errno) {
	q, e := mosaic.Fill(f.plane, s.phase)
	return frame{picture: q}, e
}

type mix struct{ matrix [9]int }

func (s mix) run(f frame) (frame, api.Errno) {
	q, e := tone.Mix(f.picture, s.matrix)
	return frame{picture: q}, e
}

type bend struct{ curve []api.Point }

func (s bend) run(f frame) (frame, api.Errno) {
	q, e := tone.Bend(f.picture, s.curve)
	return frame{picture: q}, e
}

type sharpen struct{ amount int }

func (s sharpen) run(f frame) (frame, api.Errno) {
	q, e := tone.Sharpen(f.picture, s.amount)
	return frame{picture: q}, e
}
