package robot_test

import (
	"slices"
	"strconv"
	"strings"
	"testing"

	"armplan/api"
	"armplan/robot"
	"armplan/syntax"
	"armplan/token"
)

// lines returns the statements of lines of words, with the lines 1, 2, 3 and so on. It accepts any words and numbers of words.
func lines(src string) []api.Statement {
	var l []api.Statement
	for i, text := range strings.Split(src, "\n") {
		if fields := strings.Fields(text); len(fields) > 0 {
			l = append(l, api.Statement{Line: i + 1, Word: fields[0], Args: fields[1:]})
		}
	}
	return l
}

// reads fails the test unless Read returns the robot without an error.
func reads(t *testing.T, src string, want api.Robot) {
	t.Helper()
	got, err := robot.Read(lines(src))
	if err != (api.SourceError{}) || !equal(got, want) {
		t.Errorf("Read(%q) = %+v, %v; want %+v", src, got, err, want)
	}
}

// refuses fails the test unless Read returns the error with the line, and no robot.
func refuses(t *testing.T, src string, code api.Errno, line int) {
	t.Helper()
	got, err := robot.Read(lines(src))
	if err != (api.SourceError{Err: code, Line: line}) || !equal(got, api.Robot{}) {
		t.Errorf("Read(%q) = %+v, %v; want %d in line %d", src, got, err, code, line)
	}
}

// base is the joint statement of the chapter's example.
const base = "joint base turnz world 0 0 0 -0.25 0.25 1\n"

// baseJoint returns the joint of the chapter's example.
func baseJoint() api.Joint {
	return api.Joint{Name: "base", Kind: api.TurnZ, Parent: api.World, Lo: -api.Turn / 4, Hi: api.Turn / 4, Weight: 1, Speed: api.One, Accel: api.One, Torque: api.One}
}

// of returns a robot without masses.
func of(joints ...api.Joint) api.Robot {
	return api.Robot{Joints: joints}
}

// TestReadExample checks P8.2 with the chapter's example.
func TestReadExample(t *testing.T) {
	l, err := syntax.Parse("joint base turnz world 0 0 0 -0.25 0.25 1")
	if err.Err != api.OK {
		t.Fatal(err)
	}
	got, err := robot.Read(l)
	if err != (api.SourceError{}) || !equal(got, of(baseJoint())) {
		t.Error(got, err)
	}
	reads(t, base, of(baseJoint()))
}

// TestRead checks P8.2: joints, limits and masses in order, with each number in its place.
func TestRead(t *testing.T) {
	reads(t, "joint b slidex world 1 2 3 -4 5.5 6\nmass b 0.5 -1 -2 -3\njoint a turny b -1.5 0 64 0 8 1024\nlimit b 7 8 9\nmass a 1 0 0 1\nmass b 0.25 0 1 0", api.Robot{
		Joints: []api.Joint{
			{Name: "b", Kind: api.SlideX, Parent: api.World, Offset: api.Vec{65536, 131072, 196608}, Lo: -262144, Hi: 360448, Weight: 6, Speed: 7, Accel: 8, Torque: 9},
			{Name: "a", Kind: api.TurnY, Parent: 0, Offset: api.Vec{-98304, 0, 4194304}, Lo: 0, Hi: 524288, Weight: 1024, Speed: 65536, Accel: 65536, Torque: 65536},
		},
		Masses: []api.Mass{
			{Link: 0, Mass: 32768, Point: api.Vec{-65536, -131072, -196608}},
			{Link: 1, Mass: 65536, Point: api.Vec{0, 0, 65536}},
			{Link: 0, Mass: 16384, Point: api.Vec{0, 65536, 0}},
		},
	})
}

// TestReadKinds checks P8.2: the words for the kinds of joints, and no others.
func TestReadKinds(t *testing.T) {
	for kind, word := range []string{"fixed", "turnx", "turny", "turnz", "slidex", "slidey", "slidez"} {
		j := baseJoint()
		j.Kind, j.Lo, j.Hi = kind, 0, 0
		reads(t, "joint base "+word+" world 0 0 0 0 0 1", of(j))
	}
	for _, word := range []string{"Fixed", "turn", "turnw", "turnX", "slide", "fixedx", "turnxx", "0", "3", "TurnZ", "world", "joint", "-"} {
		refuses(t, "joint base "+word+" world 0 0 0 0 0 1", api.ErrKind, 1)
	}
	got, err := robot.Read([]api.Statement{{Line: 3, Word: "joint", Args: []string{"a", "", "world", "0", "0", "0", "0", "0", "1"}}})
	if err != (api.SourceError{Err: api.ErrKind, Line: 3}) || !equal(got, api.Robot{}) {
		t.Error("an empty kind", got, err)
	}
}

// TestReadParents checks P8.2: a parent is the world or an earlier joint, by its name.
func TestReadParents(t *testing.T) {
	const rest = " 0 0 0 0 0 1\n"
	l := lines("joint a fixed world" + rest + "joint b fixed a" + rest + "joint c fixed a" + rest + "joint d fixed c" + rest + "joint e fixed world" + rest)
	got, err := robot.Read(l)
	if err != (api.SourceError{}) || len(got.Joints) != 5 {
		t.Fatal(got, err)
	}
	for i, want := range []int{-1, 0, 0, 2, -1} {
		if got.Joints[i].Parent != want || got.Joints[i].Name != string(rune('a'+i)) {
			t.Error(i, got.Joints[i])
		}
	}
	for _, parent := range []string{"b", "c", "A", "-1", "0", "World", "fixed", "aa"} {
		refuses(t, "joint a fixed world"+rest+"joint b fixed "+parent+rest+"joint c fixed world"+rest, api.ErrUnknown, 2)
	}
	refuses(t, "joint a fixed a"+rest, api.ErrUnknown, 1)
}

// TestReadNames checks P8.2: names of joints are names, and none occurs twice.
func TestReadNames(t *testing.T) {
	const rest = " fixed world 0 0 0 0 0 1\n"
	for _, name := range []string{"world", "A", "1", "_", "a-b", "abcdefghijklmnopq", "é"} {
		refuses(t, "\njoint a"+rest+"joint "+name+rest, api.ErrName, 3)
	}
	for _, name := range []string{"b", "joint", "fixed", "turnx", "a_", "abcdefghijklmnop"} {
		got, err := robot.Read(lines("joint a" + rest + "joint " + name + rest + "limit " + name + " 1 2 3\nmass " + name + " 1 0 0 0"))
		if err.Err != api.OK || got.Joints[1].Name != name || got.Joints[1].Torque != 3 || got.Masses[0].Link != 1 {
			t.Error(name, got, err)
		}
	}
	refuses(t, "joint a"+rest+"joint b"+rest+"joint a"+rest, api.ErrName, 3)
	refuses(t, "joint a"+rest+"joint a"+rest+"joint b"+rest, api.ErrName, 2)
}

// TestReadLimits checks P8.2: the last limit statement of a joint counts; without one, each of the three is One.
func TestReadLimits(t *testing.T) {
	j := baseJoint()
	j.Speed, j.Accel, j.Torque = 4, 5, 6
	reads(t, base+"limit base 1 2 3\nlimit base 4 5 6", of(j))
	reads(t, base+"limit base 0 -1 0\nlimit base 4 5 6", of(j))
	other := baseJoint()
	other.Name, other.Speed, other.Accel, other.Torque = "b", 1, 2, 3
	next := "joint b turnz world 0 0 0 -0.25 0.25 1\n"
	reads(t, base+next+"limit base 4 5 6\nlimit b 1 2 3", of(j, other))
	reads(t, base+"limit base 9 9 9\n"+next+"limit b 1 2 3\nlimit base 4 5 6", of(j, other))
	reads(t, base+next+"limit b 1 2 3", of(baseJoint(), other))
	j.Speed, j.Accel, j.Torque = api.MaxSpeed, api.MaxAccel, api.MaxTorque
	reads(t, base+"limit base 1048576 1048576 1099511627776", of(j))
	// Check comes after the last statement, so that a limit that is out of bounds counts only if it is the last one.
	refuses(t, base+"limit base 4 5 6\nlimit base 4 0 6", api.ErrCost, 0)
}

// TestReadOthers checks P8.2: other statements are ignored, whatever their arguments.
func TestReadOthers(t *testing.T) {
	j := baseJoint()
	reads(t, "skip a b\nshape base 1 0 0 0\n"+base+"shape\nskip x\nunknown 1 2\nJoint a\nlimits\nmasses base\n# joint", of(j))
	l := append(lines(base), api.Statement{}, api.Statement{Line: -1, Word: "", Args: []string{"joint"}}, api.Statement{Word: "joint "})
	got, err := robot.Read(l)
	if err != (api.SourceError{}) || !equal(got, of(j)) {
		t.Error(got, err)
	}
}

// TestReadArguments checks P8.2: a wrong number of arguments comes before all other errors of its statement.
func TestReadArguments(t *testing.T) {
	for word, permitted := range map[string]int{"joint": 9, "limit": 4, "mass": 5} {
		for n := range 40 {
			src := base + word + strings.Repeat(" ?", n) + "\nlimit ? ? ? ?"
			if n != permitted {
				refuses(t, src, api.ErrArguments, 2)
				continue
			}
			code := api.ErrUnknown
			if word == "joint" {
				code = api.ErrName
			}
			refuses(t, src, code, 2)
		}
	}
	refuses(t, "joint a fixed world 0 0 0 0 0", api.ErrArguments, 1)
	refuses(t, "joint a fixed world 0 0 0 0 0 1 1", api.ErrArguments, 1)
	refuses(t, base+"limit base 1 2", api.ErrArguments, 2)
	refuses(t, base+"mass base 1 0 0 0 0 0 0", api.ErrArguments, 2)
}

// TestReadNumbers checks P8.2: which arguments are read as numbers, and which as integers.
func TestReadNumbers(t *testing.T) {
	good := []string{"joint j slidex base 1.5 -2 3 -4 5 6", "limit base 1 2 3", "mass base 0.5 1 -2 3.25"}
	first := []int{4, 2, 2}
	for i, line := range good {
		words := strings.Fields(line)
		if _, err := robot.Read(lines(base + line)); err != (api.SourceError{}) {
			t.Fatal(line, err)
		}
		for place := first[i]; place < len(words); place++ {
			whole := i == 1 || i == 0 && place == 9
			for _, word := range []string{"x", "-", "+1", "1.", ".5", "1e3", "base", "1.2.3", "0x1", "1.0", "0.5", "123456", "00001", "100000000000000", "1000000000000000", "32769", "1.1234567"} {
				changed := slices.Clone(words)
				changed[place] = word
				_, number := token.Number(word)
				_, integer := token.Integer(word)
				if whole && integer || !whole && number {
					_, err := robot.Read(lines(base + strings.Join(changed, " ") + "\njoint"))
					if err != (api.SourceError{Err: api.ErrArguments, Line: 3}) {
						t.Error(changed, err)
					}
					continue
				}
				refuses(t, base+strings.Join(changed, " ")+"\njoint", api.ErrNumber, 2)
			}
		}
	}
}

// TestReadUnknown checks P8.2: a limit or a mass names a joint before it; the world has neither.
func TestReadUnknown(t *testing.T) {
	for _, name := range []string{"a", "world", "Base", "0", "-1", "bas", "basee"} {
		refuses(t, base+"limit "+name+" 1 2 3", api.ErrUnknown, 2)
		refuses(t, base+"mass "+name+" 1 0 0 0", api.ErrUnknown, 2)
	}
	refuses(t, "limit base 1 2 3\n"+base, api.ErrUnknown, 1)
	refuses(t, "\nmass base 1 0 0 0\n"+base, api.ErrUnknown, 2)
	refuses(t, "limit world 1 2 3", api.ErrUnknown, 1)
}

// TestReadOrder checks P8.2: within a statement errors come in the order of the arguments, and the first statement with an error counts.
func TestReadOrder(t *testing.T) {
	damaged := []struct {
		code  api.Errno
		place int
		word  string
	}{{api.ErrName, 1, "base"}, {api.ErrKind, 2, "turn"}, {api.ErrUnknown, 3, "j"}, {api.ErrNumber, 4, "x"}, {api.ErrNumber, 8, "x"}, {api.ErrNumber, 9, "1.5"}}
	for i, first := range damaged {
		for k, second := range damaged {
			words := strings.Fields("joint j slidex base 0 0 0 0 0 1")
			words[first.place], words[second.place] = first.word, second.word
			refuses(t, base+strings.Join(words, " "), damaged[min(i, k)].code, 2)
		}
	}
	refuses(t, base+"limit j x 1 1", api.ErrUnknown, 2)
	refuses(t, base+"mass j x 1 1 1", api.ErrUnknown, 2)
	refuses(t, base+"mass base x 1 1 1\nlimit j 1 1 1\njoint", api.ErrNumber, 2)
	refuses(t, base+"limit j 1 1 1\nmass base x 1 1 1\njoint", api.ErrUnknown, 2)
	refuses(t, "joint\nlimit\nmass", api.ErrArguments, 1)
	// Errors of statements come before those of Check, even of earlier joints.
	refuses(t, "joint a fixed world 0 0 0 1 1 1\nlimit a x 1 1", api.ErrNumber, 2)
	refuses(t, strings.Repeat("skip a b\n", 300)+base+"mass base 1 0 0 x", api.ErrNumber, 302)
}

// TestReadLine checks P8.2: the line of an error is that of its statement, whatever it is.
func TestReadLine(t *testing.T) {
	for _, line := range []int{-5, 0, 1, 1 << 40} {
		got, err := robot.Read([]api.Statement{{Line: 3, Word: "skip"}, {Line: line, Word: "joint"}, {Line: 9, Word: "mass"}})
		if err != (api.SourceError{Err: api.ErrArguments, Line: line}) || !equal(got, api.Robot{}) {
			t.Error(line, got, err)
		}
	}
}

// TestReadCheck checks P8.2: after all statements, an error of Check has line 0.
func TestReadCheck(t *testing.T) {
	refuses(t, "", api.ErrJoints, 0)
	refuses(t, "skip a b\nshape world 1 0 0 0", api.ErrJoints, 0)
	refuses(t, "joint a fixed world 64.00002 0 0 0 0 1", api.ErrLength, 0)
	refuses(t, "joint a fixed world 0 -65 0 0 0 1", api.ErrLength, 0)
	refuses(t, "joint a fixed world 0 0 0 0 1 1", api.ErrLimits, 0)
	refuses(t, "joint a turnx world 0 0 0 0.5 0.25 1", api.ErrLimits, 0)
	refuses(t, "joint a turnx world 0 0 0 0 8.00002 1", api.ErrLimits, 0)
	refuses(t, "joint a slidez world 0 0 0 -64.00002 0 1", api.ErrLimits, 0)
	refuses(t, "joint a fixed world 0 0 0 0 0 0", api.ErrCost, 0)
	refuses(t, "joint a fixed world 0 0 0 0 0 1025", api.ErrCost, 0)
	refuses(t, base+"limit base 1 1 -1", api.ErrCost, 0)
	refuses(t, base+"mass base 0 0 0 0", api.ErrMass, 0)
	refuses(t, base+"mass base 1.00002 0 0 0", api.ErrMass, 0)
	refuses(t, base+"mass base 1 0 0 -64.00002", api.ErrMass, 0)
	refuses(t, base+strings.Repeat("mass base 1 0 0 0\n", api.MaxMasses+1), api.ErrMass, 0)
	many := ""
	for i := range api.MaxJoints {
		many += "joint j" + strconv.Itoa(i) + " fixed world 0 0 0 0 0 1\n"
	}
	if got, err := robot.Read(lines(many)); err != (api.SourceError{}) || len(got.Joints) != api.MaxJoints {
		t.Error(got, err)
	}
	refuses(t, many+"joint k fixed j9 0 0 0 0 0 1", api.ErrJoints, 0)
	if got, err := robot.Read(lines(base + strings.Repeat("mass base 1 0 0 0\n", api.MaxMasses))); err != (api.SourceError{}) || len(got.Masses) != api.MaxMasses {
		t.Error(got, err)
	}
}

// written fails the test unless Write returns the statements of the lines.
func written(t *testing.T, r api.Robot, want string) {
	t.Helper()
	got := robot.Write(r)
	if text := syntax.Format(got); text != want {
		t.Errorf("Write(%+v) = %q, want %q", r, text, want)
	}
	for i, s := range got {
		if s.Line != i+1 || !syntax.Arguments(s.Word, len(s.Args)) {
			t.Errorf("statement %d: %+v", i, s)
		}
	}
}

// TestWrite checks P8.3: a joint and a limit statement for each joint, then the masses, with each number in its place.
func TestWrite(t *testing.T) {
	written(t, of(baseJoint()), base+"limit base 65536 65536 65536\n")
	written(t, api.Robot{
		Joints: []api.Joint{
			{Name: "b", Kind: api.SlideX, Parent: api.World, Offset: api.Vec{1, -2, 196608}, Lo: -262144, Hi: 360448, Weight: 6, Speed: 7, Accel: 8, Torque: 9},
			{Name: "a", Kind: api.Fixed, Parent: 0, Offset: api.Vec{-98304, 0, 4194304}, Weight: 1024, Speed: api.MaxSpeed, Accel: api.MaxAccel - 1, Torque: api.MaxTorque},
			{Name: "c", Kind: api.TurnX, Parent: 1, Lo: -524288, Hi: 524288, Weight: 1, Speed: 1, Accel: 2, Torque: 3},
		},
		Masses: []api.Mass{
			{Link: 2, Mass: 65536, Point: api.Vec{-65536, -131072, -196608}},
			{Link: 0, Mass: 1, Point: api.Vec{0, 0, 32768}},
		},
	}, "joint b slidex world 0.00002 -0.00003 3 -4 5.5 6\nlimit b 7 8 9\n"+
		"joint a fixed b -1.5 0 64 0 0 1024\nlimit a 1048576 1048575 1099511627776\n"+
		"joint c turnx a 0 0 0 -8 8 1\nlimit c 1 2 3\n"+
		"mass c 1 -1 -2 -3\nmass b 0.00002 0 0 0.5\n")
	for kind, word := range []string{"fixed", "turnx", "turny", "turnz", "slidex", "slidey", "slidez"} {
		j := baseJoint()
		j.Kind, j.Lo, j.Hi = kind, 0, 0
		written(t, of(j), "joint base "+word+" world 0 0 0 0 0 1\nlimit base 65536 65536 65536\n")
	}
}

// TestWriteNotValid checks P8.3: no statements for a robot that is not valid.
func TestWriteNotValid(t *testing.T) {
	heavy := chained(2)
	heavy.Masses = []api.Mass{mass(0), mass(2)}
	for _, r := range []api.Robot{{}, heavy, chained(api.MaxJoints + 1), of(api.Joint{}), of(baseJoint(), baseJoint())} {
		if got := robot.Write(r); len(got) != 0 {
			t.Errorf("Write(%+v) = %v", r, got)
		}
	}
	for _, damage := range []func(j *api.Joint){
		func(j *api.Joint) { j.Name = "" }, func(j *api.Joint) { j.Kind = 7 }, func(j *api.Joint) { j.Kind = -1 },
		func(j *api.Joint) { j.Parent = 5 }, func(j *api.Joint) { j.Parent = -2 }, func(j *api.Joint) { j.Offset[0] = greatest },
		func(j *api.Joint) { j.Lo = greatest }, func(j *api.Joint) { j.Weight = 0 },
	} {
		r := chained(3)
		damage(&r.Joints[1])
		if got := robot.Write(r); len(got) != 0 {
			t.Errorf("Write(%+v) = %v", r, got)
		}
	}
}

// TestReadBack checks P8.5: Read returns every valid robot from what Write writes, directly and through a text.
func TestReadBack(t *testing.T) {
	s := &source{state: 83}
	for round := range 5000 {
		want := s.robot(1 + round%api.MaxJoints)
		if round%50 == 0 {
			for len(want.Masses) < api.MaxMasses {
				want.Masses = append(want.Masses, api.Mass{Link: s.below(len(want.Joints)), Mass: s.from(1, api.MaxMass), Point: s.vec()})
			}
		}
		checks(t, want, api.OK)
		l := robot.Write(want)
		if len(l) != 2*len(want.Joints)+len(want.Masses) {
			t.Fatal(len(l), want)
		}
		got, err := robot.Read(l)
		if err != (api.SourceError{}) || !equal(got, want) {
			t.Fatalf("Read(Write(%+v)) = %+v, %v", want, got, err)
		}
		parsed, err := syntax.Parse(syntax.Format(l))
		if err.Err != api.OK {
			t.Fatal(want, err)
		}
		got, err = robot.Read(parsed)
		if err != (api.SourceError{}) || !equal(got, want) {
			t.Fatalf("from a text: %+v, %v", got, err)
		}
	}
}

// TestTextFresh checks P8.2 and P8.3 with R3: results share no memory, and arguments are not changed.
func TestTextFresh(t *testing.T) {
	src := "joint a slidex world 1 2 3 -4 5.5 6\njoint b turnx a 0 0 0 0 0 1\nlimit b 1 2 3\nmass b 0.5 -1 -2 -3\nskip a b"
	l := lines(src)
	first, _ := robot.Read(l)
	second, _ := robot.Read(l)
	if syntax.Format(l) != syntax.Format(lines(src)) {
		t.Error("the statements are changed", l)
	}
	clear(first.Joints[:cap(first.Joints)])
	clear(first.Masses[:cap(first.Masses)])
	reads(t, src, second)
	before, _ := robot.Read(l)
	want := syntax.Format(robot.Write(second))
	for i := range robot.Write(second) {
		got := robot.Write(second)
		_ = append(got[i].Args, slices.Repeat([]string{"x"}, 20)...)
		if syntax.Format(got) != want {
			t.Error("appending to the arguments of statement", i)
		}
		kept := slices.Clone(got[i].Args)
		clear(got[i].Args[:cap(got[i].Args)])
		got[i].Args = kept
		if syntax.Format(got) != want {
			t.Error("writing to the arguments of statement", i)
		}
	}
	if !equal(second, before) {
		t.Error("the robot is changed", second)
	}
}
