package scene

import (
	"armplan/api"
	"armplan/robot"
	"armplan/syntax"
	"armplan/token"
)

// First words of the statements that Read adds to those of a robot.
const (
	shapeWord = "shape"
	skipWord  = "skip"
)

// world stands for World as a LINK.
const world = "world"

// Read returns the scene that statements describe.
func Read(l []api.Statement) (api.Scene, api.SourceError) {
	// A LINK may name a later joint, so that the whole robot is read first.
	r, failure := robot.Read(l)
	if failure.Err != api.OK {
		return api.Scene{}, failure
	}
	s := api.Scene{Robot: r}
	for _, t := range l {
		if err := add(&s, t); err != api.OK {
			return api.Scene{}, api.SourceError{Err: err, Line: t.Line}
		}
	}
	if err := Check(s); err != api.OK {
		return api.Scene{}, api.SourceError{Err: err}
	}
	return s, api.SourceError{}
}

// add reads a statement into a scene, if it is a shape or a skip, and returns its first error.
func add(s *api.Scene, t api.Statement) api.Errno {
	switch {
	case t.Word != shapeWord && t.Word != skipWord:
		return api.OK
	case !syntax.Arguments(t.Word, len(t.Args)):
		return api.ErrArguments
	case t.Word == shapeWord:
		return addShape(s, t.Args)
	}
	return addSkip(s, t.Args)
}

// addShape reads the arguments LINK RADIUS X Y Z, and X Y Z again for each further point.
func addShape(s *api.Scene, args []string) api.Errno {
	link, known := linkOf(s.Robot, args[0])
	if !known {
		return api.ErrUnknown
	}
	v, ok := numbers(args[1:])
	if !ok {
		return api.ErrNumber
	}
	h := api.Shape{Link: link, Radius: v[0]}
	for rest := v[1:]; len(rest) > 0; rest = rest[3:] {
		h.Points = append(h.Points, api.Vec(rest[:3]))
	}
	s.Shapes = append(s.Shapes, h)
	return api.OK
}

// addSkip reads the arguments LINK LINK.
func addSkip(s *api.Scene, args []string) api.Errno {
	a, known := linkOf(s.Robot, args[0])
	b, also := linkOf(s.Robot, args[1])
	if !known || !also {
		return api.ErrUnknown
	}
	s.Skips = append(s.Skips, api.Skip{A: a, B: b})
	return api.OK
}

// linkOf returns the number that a LINK stands for.
func linkOf(r api.Robot, word string) (int, bool) {
	if word == world {
		return api.World, true
	}
	number := robot.Find(r, word)
	return number, number >= 0
}

// numbers reads each word as a fixed-point number.
func numbers(words []string) ([]int64, bool) {
	v := make([]int64, len(words))
	for i, word := range words {
		n, ok := token.Number(word)
		if !ok {
			return nil, false
		}
		v[i] = n
	}
	return v, true
}

// Write returns the statements from which Read reads a valid scene, and none for other scenes.
func Write(s api.Scene) []api.Statement {
	if Check(s) != api.OK {
		return nil
	}
	l := robot.Write(s.Robot)
	for _, h := range s.Shapes {
		l = append(l, api.Statement{Line: len(l) + 1, Word: shapeWord, Args: shapeArguments(s.Robot, h)})
	}
	for _, k := range s.Skips {
		l = append(l, api.Statement{Line: len(l) + 1, Word: skipWord, Args: []string{linkName(s.Robot, k.A), linkName(s.Robot, k.B)}})
	}
	return l
}

// shapeArguments returns the arguments of the shape statement of a shape of a valid scene.
func shapeArguments(r api.Robot, h api.Shape) []string {
	args := []string{linkName(r, h.Link), token.Format(h.Radius)}
	for _, p := range h.Points {
		for _, x := range p {
			args = append(args, token.Format(x))
		}
	}
	return args
}

// linkName returns the LINK that stands for the number of a link.
func linkName(r api.Robot, link int) string {
	if link == api.World {
		return world
	}
	return r.Joints[link].Name
}
