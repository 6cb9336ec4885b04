package scene_test

import (
	"slices"
	"strconv"
	"strings"
	"testing"

	"armplan/api"
	"armplan/robot"
	"armplan/scene"
	"armplan/syntax"
	"armplan/token"
)

// lines returns the statements of lines of words, with the lines 1, 2, 3 and so on. It accepts any words and numbers of words.
func lines(src string) []api.Statement {
	var l []api.Statement
	for i, text := range strings.Split(src, "\n") {
		if fields := strings.Fields(text); len(fields) > 0 {
			l = append(l, api.Statement{Line: i + 1, Word: fields[0], Args: fields[1:]})
		}
	}
	return l
}

// reads fails the test unless Read returns the scene without an error.
func reads(t *testing.T, src string, want api.Scene) {
	t.Helper()
	got, err := scene.Read(lines(src))
	if err != (api.SourceError{}) || !equal(got, want) {
		t.Errorf("Read(%q) = %+v, %v; want %+v", src, got, err, want)
	}
}

// refuses fails the test unless Read returns the error with the line, and no scene.
func refuses(t *testing.T, src string, code api.Errno, line int) {
	t.Helper()
	got, err := scene.Read(lines(src))
	if err != (api.SourceError{Err: code, Line: line}) || !equal(got, api.Scene{}) {
		t.Errorf("Read(%q) = %+v, %v; want %d in line %d", src, got, err, code, line)
	}
}

// base and tip are the statements of two joints.
const (
	base = "joint base turnz world 0 0 0 -0.25 0.25 1\n"
	tip  = "joint tip slidex base 1 0 0 0 2 1\n"
)

// two returns the robot of base and tip.
func two() api.Robot {
	return api.Robot{Joints: []api.Joint{
		{Name: "base", Kind: api.TurnZ, Parent: api.World, Lo: -16384, Hi: 16384, Weight: 1, Speed: api.One, Accel: api.One, Torque: api.One},
		{Name: "tip", Kind: api.SlideX, Parent: 0, Offset: api.Vec{api.One, 0, 0}, Hi: 2 * api.One, Weight: 1, Speed: api.One, Accel: api.One, Torque: api.One},
	}}
}

// TestRead checks P9.2: robot, shapes and skips in order, with each number in its place.
func TestRead(t *testing.T) {
	reads(t, base+tip, api.Scene{Robot: two()})
	r := two()
	r.Masses = []api.Mass{{Link: 1, Mass: 32768}}
	r.Joints[0].Speed, r.Joints[0].Accel, r.Joints[0].Torque = 7, 8, 9
	reads(t, "skip tip world\n"+base+"shape tip 0.5 1 2 3\nlimit base 7 8 9\n"+tip+"skip base base\nmass tip 0.5 0 0 0\nshape world 16 -1.5 0 64 0.00002 -64 5\nskip world tip\nshape base 0.00002 0 0 0", api.Scene{
		Robot: r,
		Shapes: []api.Shape{
			{Link: 1, Radius: 32768, Points: []api.Vec{{65536, 131072, 196608}}},
			{Link: -1, Radius: api.MaxRadius, Points: []api.Vec{{-98304, 0, api.MaxLength}, {1, -api.MaxLength, 327680}}},
			{Link: 0, Radius: 1, Points: []api.Vec{{0, 0, 0}}},
		},
		Skips: []api.Skip{{A: 1, B: -1}, {A: 0, B: 0}, {A: -1, B: 1}},
	})
}

// TestReadExample checks P9.2 and P9.4 with the chapter's examples as descriptions.
func TestReadExample(t *testing.T) {
	for _, shapes := range []string{"shape base 0.5 0 0 0\nshape world 0.5 1 0 0", "shape world 0.5 1 0 0 # first\nshape base 0.5 0 0 0"} {
		l, err := syntax.Parse(base + shapes)
		if err.Err != api.OK {
			t.Fatal(err)
		}
		got, err := scene.Read(l)
		if err != (api.SourceError{}) || len(got.Shapes) != 2 {
			t.Error(got, err)
		}
		paired(t, got, api.Pair{A: 0, B: 1})
	}
}

// TestReadPoints checks P9.2: a shape has from 1 to MaxPoints points, each with its three coordinates.
func TestReadPoints(t *testing.T) {
	for n := 1; n <= api.MaxPoints; n++ {
		src, want := base+tip+"shape tip 1", api.Shape{Link: 1, Radius: api.One}
		for i := range int64(n) {
			src += " " + strconv.FormatInt(3*i, 10) + " " + strconv.FormatInt(-3*i-1, 10) + " " + strconv.FormatInt(3*i+2, 10)
			want.Points = append(want.Points, api.Vec{3 * i * api.One, (-3*i - 1) * api.One, (3*i + 2) * api.One})
		}
		reads(t, src, api.Scene{Robot: two(), Shapes: []api.Shape{want}})
	}
}

// TestReadLinks checks P9.2: a LINK is the name of any joint, before or after the statement, or `world`.
func TestReadLinks(t *testing.T) {
	for word, link := range map[string]int{"base": 0, "tip": 1, "world": -1} {
		want := api.Scene{Robot: two(), Shapes: []api.Shape{ball(link)}, Skips: []api.Skip{{A: link, B: 1}, {A: -1, B: link}}}
		shape, skips := "shape "+word+" 0.00002 0 0 0\n", "skip "+word+" tip\nskip world "+word+"\n"
		reads(t, shape+skips+base+tip, want)
		reads(t, base+shape+tip+skips, want)
		reads(t, base+skips+tip+shape, want)
		reads(t, base+tip+skips+shape, want)
	}
	for _, word := range []string{"bas", "basee", "Base", "World", "0", "-1", "1", "turnz", "fixed", "shape", "*"} {
		refuses(t, base+tip+"\nshape "+word+" 1 0 0 0", api.ErrUnknown, 4)
		refuses(t, base+tip+"skip "+word+" tip", api.ErrUnknown, 3)
		refuses(t, base+tip+"skip world "+word, api.ErrUnknown, 3)
		refuses(t, "skip "+word+" "+word+"\n"+base+tip, api.ErrUnknown, 1)
	}
	got, err := scene.Read(append(lines(base), api.Statement{Line: 5, Word: "skip", Args: []string{"", "base"}}))
	if err != (api.SourceError{Err: api.ErrUnknown, Line: 5}) || !equal(got, api.Scene{}) {
		t.Error("an empty LINK", got, err)
	}
}

// TestReadNumbers checks P9.2: radius and coordinates are read by token.Number.
func TestReadNumbers(t *testing.T) {
	const line = "shape tip 1.5 1 -2 3.25 4 5 6 -7 8 9.5"
	words := strings.Fields(line)
	if _, err := scene.Read(lines(base + tip + line)); err != (api.SourceError{}) {
		t.Fatal(err)
	}
	for place := 2; place < len(words); place++ {
		for _, word := range []string{"x", "-", "+1", "1.", ".5", "1e3", "tip", "1.2.3", "0x1", "123456", "32769", "-99999", "1.1234567", "0.25", "00001", "1.0"} {
			other := slices.Clone(words)
			other[place] = word
			src := base + tip + strings.Join(other, " ")
			n, ok := token.Number(word)
			if !ok {
				refuses(t, src+"\nskip", api.ErrNumber, 3)
				continue
			}
			got, err := scene.Read(lines(src))
			if err != (api.SourceError{}) {
				t.Error(other, err)
				continue
			}
			values := []int64{got.Shapes[0].Radius}
			for _, p := range got.Shapes[0].Points {
				values = append(values, p[0], p[1], p[2])
			}
			if values[place-2] != n {
				t.Error(other, got)
			}
		}
	}
}

// TestReadArguments checks P9.2: a wrong number of arguments comes before all other errors of its statement.
func TestReadArguments(t *testing.T) {
	for _, word := range []string{"shape", "skip"} {
		for n := range 40 {
			code := api.ErrArguments
			if word == "skip" && n == 2 || word == "shape" && n >= 5 && n <= 26 && n%3 == 2 {
				code = api.ErrUnknown
			}
			refuses(t, base+word+strings.Repeat(" ?", n)+"\nskip ? ?", code, 2)
		}
	}
	refuses(t, base+"shape base 1 0 0", api.ErrArguments, 2)
	refuses(t, base+"shape base 1", api.ErrArguments, 2)
	refuses(t, base+"shape base 1 0 0 0 0", api.ErrArguments, 2)
	refuses(t, base+"shape base 1"+strings.Repeat(" 0 0 0", api.MaxPoints+1), api.ErrArguments, 2)
	refuses(t, base+"skip base", api.ErrArguments, 2)
	refuses(t, base+"skip base world base", api.ErrArguments, 2)
}

// TestReadOrder checks P9.2: within a statement errors come in the order of its arguments, and the first statement with an error counts.
func TestReadOrder(t *testing.T) {
	refuses(t, base+"shape x x 0 0 0", api.ErrUnknown, 2)
	refuses(t, base+"shape x 1 0 0 x", api.ErrUnknown, 2)
	bad := []struct {
		line string
		code api.Errno
	}{{"shape base 1", api.ErrArguments}, {"skip base", api.ErrArguments}, {"shape x 1 0 0 0", api.ErrUnknown}, {"skip base x", api.ErrUnknown}, {"skip x base", api.ErrUnknown}, {"shape base 1 0 0 x", api.ErrNumber}, {"shape base x 0 0 0", api.ErrNumber}}
	for _, first := range bad {
		for _, second := range bad {
			refuses(t, base+first.line+"\n"+second.line, first.code, 2)
			refuses(t, "\n"+first.line+"\nskip base world\n"+second.line+"\n"+base, first.code, 2)
		}
		// Errors of statements come before those of Check, even of earlier shapes.
		refuses(t, base+"shape base 0 0 0 0\n"+first.line, first.code, 3)
		refuses(t, base+strings.Repeat("skip base world\n", 300)+first.line, first.code, 302)
	}
}

// TestReadRobot checks P9.2: an error of robot.Read comes first, even of a later statement.
func TestReadRobot(t *testing.T) {
	for _, line := range []string{"", "shape x 1 0 0 0", "skip base", "shape base x 0 0 0", "shape base 0 0 0 0", strings.Repeat("skip base base\n", 65)} {
		count := strings.Count(line+"\n", "\n")
		for bad, code := range map[string]api.Errno{
			"joint base turnz world 0 0 0 0 0 1": api.ErrName, "joint b turn world 0 0 0 0 0 1": api.ErrKind, "joint b turnz c 0 0 0 0 0 1": api.ErrUnknown,
			"joint b turnz world 0 0 0 0 0 x": api.ErrNumber, "joint": api.ErrArguments, "limit tip 1 1 1": api.ErrUnknown, "mass world 1 0 0 0": api.ErrUnknown,
		} {
			refuses(t, line+"\n"+base+bad, code, count+2)
		}
		refuses(t, line, api.ErrJoints, 0)
		refuses(t, line+"\n"+base+"limit base 0 1 1", api.ErrCost, 0)
		refuses(t, line+"\n"+base+"mass base 0 0 0 0", api.ErrMass, 0)
	}
	refuses(t, "", api.ErrJoints, 0)
}

// TestReadOthers checks P9.2: statements of other words are ignored, whatever their arguments.
func TestReadOthers(t *testing.T) {
	reads(t, base+tip+"Shape x\nskips\nunknown 1 2\nshapes world\nskip tip base\n# shape", api.Scene{Robot: two(), Skips: []api.Skip{{A: 1, B: 0}}})
	l := append(lines(base+tip), api.Statement{}, api.Statement{Line: -1, Args: []string{"shape"}}, api.Statement{Word: "shape "})
	got, err := scene.Read(l)
	if err != (api.SourceError{}) || !equal(got, api.Scene{Robot: two()}) {
		t.Error(got, err)
	}
}

// TestReadLine checks P9.2: the line of an error is that of its statement, whatever it is.
func TestReadLine(t *testing.T) {
	for _, line := range []int{-5, 0, 1, 1 << 40} {
		got, err := scene.Read(append(lines(base), api.Statement{Line: line, Word: "skip"}, api.Statement{Line: 9, Word: "shape"}))
		if err != (api.SourceError{Err: api.ErrArguments, Line: line}) || !equal(got, api.Scene{}) {
			t.Error(line, got, err)
		}
	}
}

// TestReadCheck checks P9.2: after all statements, an error of Check has line 0.
func TestReadCheck(t *testing.T) {
	refuses(t, base+"shape base 0 0 0 0", api.ErrShape, 0)
	refuses(t, base+"shape world -1 0 0 0", api.ErrShape, 0)
	refuses(t, base+"shape base 16.00002 0 0 0", api.ErrShape, 0)
	refuses(t, base+"shape base 1 64.00002 0 0", api.ErrLength, 0)
	refuses(t, base+"shape base 1 0 0 0 0 -64.00002 0", api.ErrLength, 0)
	refuses(t, base+"shape base 1 0 0 65\nshape base 0 0 0 0", api.ErrLength, 0)
	refuses(t, base+"shape base 0 0 0 65\n"+strings.Repeat("skip base world\n", api.MaxSkips+1), api.ErrShape, 0)
	ball, skip := "shape base 1 0 0 0\n", "skip base world\n"
	refuses(t, base+strings.Repeat(ball, api.MaxShapes+1), api.ErrShapes, 0)
	refuses(t, base+"shape base 0 0 0 0\n"+strings.Repeat(ball, api.MaxShapes), api.ErrShapes, 0)
	refuses(t, base+strings.Repeat(skip, api.MaxSkips+1), api.ErrSkip, 0)
	got, err := scene.Read(lines(strings.Repeat(ball, api.MaxShapes) + strings.Repeat(skip, api.MaxSkips) + base))
	if err != (api.SourceError{}) || len(got.Shapes) != api.MaxShapes || len(got.Skips) != api.MaxSkips {
		t.Error(got, err)
	}
}

// written fails the test unless Write returns the statements of the robot, and then those of the lines.
func written(t *testing.T, s api.Scene, want string) {
	t.Helper()
	got := scene.Write(s)
	if text := syntax.Format(got); text != syntax.Format(robot.Write(s.Robot))+want {
		t.Errorf("Write(%+v) = %q, want %q", s, text, want)
	}
	for i, l := range got {
		if l.Line != i+1 || !syntax.Arguments(l.Word, len(l.Args)) {
			t.Errorf("statement %d: %+v", i, l)
		}
	}
}

// TestWrite checks P9.3: the statements of the robot, then the shapes, then the skips, with each number in its place.
func TestWrite(t *testing.T) {
	r := two()
	r.Masses = []api.Mass{{Link: 1, Mass: 32768, Point: api.Vec{1, 2, 3}}}
	written(t, api.Scene{Robot: r}, "")
	s := api.Scene{
		Robot: r,
		Shapes: []api.Shape{
			{Link: 1, Radius: 32768, Points: []api.Vec{{65536, 131072, 196608}}},
			{Link: -1, Radius: api.MaxRadius, Points: []api.Vec{{-98304, 0, api.MaxLength}, {1, -api.MaxLength, 327680}}},
			{Link: 0, Radius: 1, Points: make([]api.Vec, api.MaxPoints)},
		},
		Skips: []api.Skip{{A: 1, B: -1}, {A: 0, B: 0}, {A: -1, B: 1}, {A: 1, B: -1}},
	}
	written(t, s, "shape tip 0.5 1 2 3\nshape world 16 -1.5 0 64 0.00002 -64 5\nshape base 0.00002"+strings.Repeat(" 0 0 0", api.MaxPoints)+
		"\nskip tip world\nskip base base\nskip world tip\nskip tip world\n")
	text := syntax.Format(scene.Write(s))
	if !strings.HasPrefix(text, base+"limit base 65536 65536 65536\n"+tip+"limit tip 65536 65536 65536\nmass tip 0.5 0.00002 0.00003 0.00005\nshape tip") {
		t.Errorf("%q", text)
	}
}

// TestWriteNotValid checks P9.3: no statements for a scene that is not valid.
func TestWriteNotValid(t *testing.T) {
	if len(scene.Write(full())) == 0 {
		t.Fatal("no statements")
	}
	for i, damage := range damages() {
		if got := scene.Write(changed(damage)); len(got) != 0 {
			t.Error(i, got)
		}
	}
	if got := scene.Write(api.Scene{}); len(got) != 0 {
		t.Error("the zero scene", got)
	}
}

// TestReadBack checks P9.5: Read returns every valid scene from what Write writes, directly and through a text that is not too long.
func TestReadBack(t *testing.T) {
	random := &source{state: 97}
	for round := range 3000 {
		want := random.scene(1 + round%api.MaxJoints)
		l := scene.Write(want)
		if len(l) != len(robot.Write(want.Robot))+len(want.Shapes)+len(want.Skips) {
			t.Fatal(len(l), want)
		}
		got, err := scene.Read(l)
		if err != (api.SourceError{}) || !equal(got, want) {
			t.Fatalf("Read(Write(%+v)) = %+v, %v", want, got, err)
		}
		text := syntax.Format(l)
		if len(text) > api.MaxText {
			continue
		}
		parsed, err := syntax.Parse(text)
		if err.Err != api.OK {
			t.Fatal(want, err)
		}
		got, err = scene.Read(parsed)
		if err != (api.SourceError{}) || !equal(got, want) {
			t.Fatalf("from a text: %+v, %v", got, err)
		}
	}
}

// TestTextFresh checks P9.2 and P9.3 with R3: results share no memory, and arguments are not changed.
func TestTextFresh(t *testing.T) {
	src := base + tip + "limit tip 1 2 3\nmass tip 0.5 -1 -2 -3\nshape tip 1 0 0 0 1 1 1\nshape tip 1 2 3 4\nshape world 1 1 2 3 4 5 6 7 8 9\nskip tip world\nskip base base"
	l := lines(src)
	first, _ := scene.Read(l)
	second, _ := scene.Read(l)
	if syntax.Format(l) != syntax.Format(lines(src)) {
		t.Error("the statements are changed", l)
	}
	before := copied(second)
	for i, h := range first.Shapes {
		rest := copied(first)
		clear(h.Points[:cap(h.Points)])
		rest.Shapes[i].Points = h.Points
		if !equal(first, rest) {
			t.Error("writing to the points of shape", i)
		}
	}
	clear(first.Shapes[:cap(first.Shapes)])
	clear(first.Skips[:cap(first.Skips)])
	clear(first.Robot.Joints[:cap(first.Robot.Joints)])
	clear(first.Robot.Masses[:cap(first.Robot.Masses)])
	reads(t, src, second)
	want := syntax.Format(scene.Write(second))
	for i := range scene.Write(second) {
		got := scene.Write(second)
		kept := slices.Clone(got[i].Args)
		clear(got[i].Args[:cap(got[i].Args)])
		got[i].Args = kept
		if syntax.Format(got) != want {
			t.Error("writing to the arguments of statement", i)
		}
	}
	if !equal(second, before) {
		t.Error("the scene is changed", second)
	}
}
