package robot

import (
	"strconv"

	"armplan/api"
	"armplan/syntax"
	"armplan/token"
)

// First words of the statements that describe a robot.
const (
	jointWord = "joint"
	limitWord = "limit"
	massWord  = "mass"
)

// world stands for World as the parent of a joint.
const world = "world"

// kindWords are the words for the kinds of joints.
var kindWords = [...]string{
	api.Fixed:  "fixed",
	api.TurnX:  "turnx",
	api.TurnY:  "turny",
	api.TurnZ:  "turnz",
	api.SlideX: "slidex",
	api.SlideY: "slidey",
	api.SlideZ: "slidez",
}

// reader is a robot that is being read, with the numbers of its joints by their names.
type reader struct {
	robot   api.Robot
	numbers map[string]int
}

// Read returns the robot that the statements joint, limit and mass describe.
func Read(l []api.Statement) (api.Robot, api.SourceError) {
	b := reader{numbers: map[string]int{}}
	for _, s := range l {
		if err := b.add(s); err != api.OK {
			return api.Robot{}, api.SourceError{Err: err, Line: s.Line}
		}
	}
	if err := Check(b.robot); err != api.OK {
		return api.Robot{}, api.SourceError{Err: err}
	}
	return b.robot, api.SourceError{}
}

// add reads a statement, unless it does not describe a robot, and returns its first error.
func (b *reader) add(s api.Statement) api.Errno {
	var read func(args []string) api.Errno
	switch s.Word {
	case jointWord:
		read = b.joint
	case limitWord:
		read = b.limit
	case massWord:
		read = b.mass
	default:
		return api.OK
	}
	if !syntax.Arguments(s.Word, len(s.Args)) {
		return api.ErrArguments
	}
	return read(s.Args)
}

// joint reads the arguments NAME KIND PARENT X Y Z LO HI WEIGHT.
func (b *reader) joint(args []string) api.Errno {
	name := args[0]
	if _, taken := b.numbers[name]; taken || !token.Name(name) {
		return api.ErrName
	}
	kind, known := kindOf(args[1])
	if !known {
		return api.ErrKind
	}
	parent, known := b.parent(args[2])
	if !known {
		return api.ErrUnknown
	}
	v, ok := values(args[3:8], token.Number)
	weight, whole := token.Integer(args[8])
	if !ok || !whole {
		return api.ErrNumber
	}
	b.numbers[name] = len(b.robot.Joints)
	b.robot.Joints = append(b.robot.Joints, api.Joint{
		Name: name, Kind: kind, Parent: parent, Offset: api.Vec(v[:3]), Lo: v[3], Hi: v[4], Weight: weight,
		Speed: api.One, Accel: api.One, Torque: api.One,
	})
	return api.OK
}

// kindOf returns the kind of joint that a word stands for.
func kindOf(word string) (int, bool) {
	for kind, w := range kindWords {
		if w == word {
			return kind, true
		}
	}
	return 0, false
}

// parent returns the number that a PARENT stands for.
func (b *reader) parent(word string) (int, bool) {
	if word == world {
		return api.World, true
	}
	number, known := b.numbers[word]
	return number, known
}

// values reads each word as a number.
func values(words []string, read func(string) (int64, bool)) ([]int64, bool) {
	v := make([]int64, len(words))
	for i, word := range words {
		n, ok := read(word)
		if !ok {
			return nil, false
		}
		v[i] = n
	}
	return v, true
}

// limit reads the arguments NAME SPEED ACCEL TORQUE.
func (b *reader) limit(args []string) api.Errno {
	number, known := b.numbers[args[0]]
	if !known {
		return api.ErrUnknown
	}
	v, ok := values(args[1:], token.Integer)
	if !ok {
		return api.ErrNumber
	}
	j := &b.robot.Joints[number]
	j.Speed, j.Accel, j.Torque = v[0], v[1], v[2]
	return api.OK
}

// mass reads the arguments LINK MASS X Y Z.
func (b *reader) mass(args []string) api.Errno {
	link, known := b.numbers[args[0]]
	if !known {
		return api.ErrUnknown
	}
	v, ok := values(args[1:], token.Number)
	if !ok {
		return api.ErrNumber
	}
	b.robot.Masses = append(b.robot.Masses, api.Mass{Link: link, Mass: v[0], Point: api.Vec(v[1:])})
	return api.OK
}

// Write returns the statements from which Read reads a valid robot, and none for other robots.
func Write(r api.Robot) []api.Statement {
	if Check(r) != api.OK {
		return nil
	}
	var l []api.Statement
	for _, j := range r.Joints {
		l = append(l, jointStatement(r, j), limitStatement(j))
	}
	for _, m := range r.Masses {
		l = append(l, massStatement(r, m))
	}
	for i := range l {
		l[i].Line = i + 1
	}
	return l
}

// jointStatement returns the joint statement of a joint of a valid robot.
func jointStatement(r api.Robot, j api.Joint) api.Statement {
	parent := world
	if j.Parent != api.World {
		parent = r.Joints[j.Parent].Name
	}
	args := []string{j.Name, kindWords[j.Kind], parent}
	args = appendNumbers(args, j.Offset[0], j.Offset[1], j.Offset[2], j.Lo, j.Hi)
	return api.Statement{Word: jointWord, Args: appendIntegers(args, j.Weight)}
}

// limitStatement returns the limit statement of a joint.
func limitStatement(j api.Joint) api.Statement {
	return api.Statement{Word: limitWord, Args: appendIntegers([]string{j.Name}, j.Speed, j.Accel, j.Torque)}
}

// massStatement returns the mass statement of a mass of a valid robot.
func massStatement(r api.Robot, m api.Mass) api.Statement {
	args := []string{r.Joints[m.Link].Name}
	return api.Statement{Word: massWord, Args: appendNumbers(args, m.Mass, m.Point[0], m.Point[1], m.Point[2])}
}

// appendNumbers appends the texts that token.Number reads.
func appendNumbers(args []string, numbers ...int64) []string {
	for _, n := range numbers {
		args = append(args, token.Format(n))
	}
	return args
}

// appendIntegers appends the texts that token.Integer reads.
func appendIntegers(args []string, integers ...int64) []string {
	for _, n := range integers {
		args = append(args, strconv.FormatInt(n, 10))
	}
	return args
}
