package scene_test

import (
	"math"
	"slices"
	"testing"

	"armplan/api"
	"armplan/robot"
	"armplan/scene"
)

const (
	least    = math.MinInt
	greatest = math.MaxInt
)

// source yields numbers by a fixed rule.
type source struct{ state uint64 }

// below returns a number from 0 to n - 1.
func (s *source) below(n int) int {
	s.state = s.state*6364136223846793005 + 1442695040888963407
	return int(s.state >> 33 % uint64(n))
}

// from returns a number from lo to hi, often one of the two.
func (s *source) from(lo, hi int64) int64 {
	switch s.below(6) {
	case 0:
		return lo
	case 1:
		return hi
	}
	s.state = s.state*6364136223846793005 + 1442695040888963407
	return lo + int64((s.state>>16)%uint64(hi-lo+1))
}

// vec returns a vector of lengths.
func (s *source) vec() api.Vec {
	var v api.Vec
	for i := range v {
		v[i] = s.from(-api.MaxLength, api.MaxLength)
	}
	return v
}

// robot returns a valid robot with a number of joints, about half of which cannot move.
func (s *source) robot(joints int) api.Robot {
	var r api.Robot
	for i := range joints {
		j := joint(string(rune('a'+(i+joints)%api.MaxJoints)), s.below(i+1)-1)
		j.Offset = s.vec()
		j.Kind = 1 + s.below(6)
		j.Lo = s.from(-100, 100)
		j.Hi = s.from(j.Lo, 100)
		if s.below(3) == 0 {
			j.Hi = j.Lo
		}
		r.Joints = append(r.Joints, j)
	}
	for range s.below(3) {
		r.Masses = append(r.Masses, api.Mass{Link: s.below(joints), Mass: s.from(1, api.MaxMass), Point: s.vec()})
	}
	return r
}

// scene returns a valid scene with a number of joints.
func (s *source) scene(joints int) api.Scene {
	c := api.Scene{Robot: s.robot(joints)}
	for range s.from(0, api.MaxShapes) {
		h := api.Shape{Link: s.below(joints+1) - 1, Radius: s.from(1, api.MaxRadius)}
		for range s.from(1, api.MaxPoints) {
			h.Points = append(h.Points, s.vec())
		}
		c.Shapes = append(c.Shapes, h)
	}
	for range s.below(joints + 3) {
		c.Skips = append(c.Skips, api.Skip{A: s.below(joints+1) - 1, B: s.below(joints+1) - 1})
	}
	if s.below(20) == 0 {
		for len(c.Skips) < api.MaxSkips {
			c.Skips = append(c.Skips, api.Skip{A: s.below(joints+1) - 1, B: s.below(joints+1) - 1})
		}
	}
	return c
}

// joint returns a valid joint that turns.
func joint(name string, parent int) api.Joint {
	return api.Joint{Name: name, Kind: api.TurnZ, Parent: parent, Lo: -16384, Hi: 16384, Weight: 1, Speed: 1, Accel: 1, Torque: 1}
}

// stiff returns a valid joint that cannot move, although it has values other than 0.
func stiff(name string, parent int) api.Joint {
	j := joint(name, parent)
	j.Kind, j.Lo, j.Hi = api.SlideY, 300, 300
	return j
}

// ball returns a valid shape of a link.
func ball(link int) api.Shape {
	return api.Shape{Link: link, Radius: 1, Points: []api.Vec{{}}}
}

// balls returns a valid shape for each link.
func balls(links ...int) []api.Shape {
	var l []api.Shape
	for _, link := range links {
		l = append(l, ball(link))
	}
	return l
}

// forked returns a valid robot with the joints a, b and c in a row, d on a, and e on the world.
func forked() api.Robot {
	return api.Robot{Joints: []api.Joint{joint("a", api.World), joint("b", 0), joint("c", 1), joint("d", 0), joint("e", api.World)}}
}

// full returns a valid scene of the forked robot with a shape for the world and each link, and with skips.
func full() api.Scene {
	s := api.Scene{Robot: forked(), Shapes: balls(-1, 0, 1, 2, 3, 4), Skips: []api.Skip{{A: 0, B: 1}, {A: -1, B: 4}}}
	s.Shapes[3].Points = []api.Vec{{1, 2, 3}, {4, 5, 6}, {7, 8, 9}}
	return s
}

// equal reports whether two scenes are equal; nil and empty lists are the same.
func equal(a, b api.Scene) bool {
	sameShape := func(x, y api.Shape) bool {
		return x.Link == y.Link && x.Radius == y.Radius && slices.Equal(x.Points, y.Points)
	}
	return slices.Equal(a.Robot.Joints, b.Robot.Joints) && slices.Equal(a.Robot.Masses, b.Robot.Masses) &&
		slices.EqualFunc(a.Shapes, b.Shapes, sameShape) && slices.Equal(a.Skips, b.Skips)
}

// copied returns a copy of a scene that shares no memory with it.
func copied(s api.Scene) api.Scene {
	c := api.Scene{Robot: api.Robot{Joints: slices.Clone(s.Robot.Joints), Masses: slices.Clone(s.Robot.Masses)}, Shapes: slices.Clone(s.Shapes), Skips: slices.Clone(s.Skips)}
	for i := range c.Shapes {
		c.Shapes[i].Points = slices.Clone(c.Shapes[i].Points)
	}
	return c
}

// changed returns the full scene after a change.
func changed(change func(s *api.Scene)) api.Scene {
	s := full()
	change(&s)
	return s
}

// checks fails the test unless Check returns the code for the full scene after a change.
func checks(t *testing.T, want api.Errno, change func(s *api.Scene)) {
	t.Helper()
	s := changed(change)
	if got := scene.Check(s); got != want {
		t.Errorf("Check(%+v) = %d, want %d", s, got, want)
	}
}

// TestCheckValid checks P9.1: OK for valid scenes, whatever lists are empty.
func TestCheckValid(t *testing.T) {
	checks(t, api.OK, func(s *api.Scene) {})
	checks(t, api.OK, func(s *api.Scene) { s.Shapes = nil })
	checks(t, api.OK, func(s *api.Scene) { s.Skips = nil })
	checks(t, api.OK, func(s *api.Scene) { s.Shapes, s.Skips = nil, nil })
	checks(t, api.OK, func(s *api.Scene) { s.Shapes, s.Skips = []api.Shape{}, []api.Skip{} })
	random := &source{state: 91}
	for round := range 300 {
		if s := random.scene(1 + round%api.MaxJoints); scene.Check(s) != api.OK {
			t.Errorf("Check(%+v) = %d", s, scene.Check(s))
		}
	}
}

// TestCheckRobot checks P9.1: an error of the robot comes first.
func TestCheckRobot(t *testing.T) {
	if got := scene.Check(api.Scene{}); got != api.ErrJoints {
		t.Error("the zero scene", got)
	}
	for _, x := range []struct {
		want   api.Errno
		damage func(r *api.Robot)
	}{
		{api.ErrJoints, func(r *api.Robot) { r.Joints = nil }},
		{api.ErrJoints, func(r *api.Robot) { r.Joints = make([]api.Joint, api.MaxJoints+1) }},
		{api.ErrName, func(r *api.Robot) { r.Joints[4].Name = "world" }},
		{api.ErrKind, func(r *api.Robot) { r.Joints[4].Kind = 7 }},
		{api.ErrParent, func(r *api.Robot) { r.Joints[4].Parent = 4 }},
		{api.ErrLength, func(r *api.Robot) { r.Joints[4].Offset[2] = api.MaxLength + 1 }},
		{api.ErrLimits, func(r *api.Robot) { r.Joints[4].Lo = 16385 }},
		{api.ErrCost, func(r *api.Robot) { r.Joints[4].Weight = 0 }},
		{api.ErrMass, func(r *api.Robot) { r.Masses = []api.Mass{{}} }},
	} {
		checks(t, x.want, func(s *api.Scene) { x.damage(&s.Robot) })
		checks(t, x.want, func(s *api.Scene) { x.damage(&s.Robot); s.Shapes = make([]api.Shape, api.MaxShapes+1) })
		checks(t, x.want, func(s *api.Scene) { x.damage(&s.Robot); s.Shapes[0].Radius = 0 })
		checks(t, x.want, func(s *api.Scene) { x.damage(&s.Robot); s.Skips[0].A = -2 })
	}
}

// TestCheckShapes checks P9.1: at most MaxShapes shapes, and this comes before all else about shapes and skips.
func TestCheckShapes(t *testing.T) {
	for n := range api.MaxShapes + 1 {
		checks(t, api.OK, func(s *api.Scene) { s.Shapes = slices.Repeat(balls(0), n) })
	}
	for _, n := range []int{api.MaxShapes + 1, api.MaxShapes + 2, 1000} {
		checks(t, api.ErrShapes, func(s *api.Scene) { s.Shapes = slices.Repeat(balls(0), n) })
		checks(t, api.ErrShapes, func(s *api.Scene) { s.Shapes = make([]api.Shape, n); s.Skips[0].A = -2 })
	}
}

// shaped checks P9.1 for a shape of the full scene that is changed, whichever it is.
func shaped(t *testing.T, want api.Errno, change func(h *api.Shape)) {
	t.Helper()
	for place := range 6 {
		checks(t, want, func(s *api.Scene) { change(&s.Shapes[place]) })
	}
}

// TestCheckShape checks P9.1: the link, the radius and the number of points of a shape.
func TestCheckShape(t *testing.T) {
	for link := api.World; link < 5; link++ {
		shaped(t, api.OK, func(h *api.Shape) { h.Link = link })
	}
	for _, link := range []int{-2, -3, 5, 6, api.MaxJoints, least, greatest} {
		shaped(t, api.ErrShape, func(h *api.Shape) { h.Link = link })
	}
	for _, radius := range []int64{1, 2, api.One, api.MaxRadius - 1, api.MaxRadius} {
		shaped(t, api.OK, func(h *api.Shape) { h.Radius = radius })
	}
	for _, radius := range []int64{0, -1, -api.One, api.MaxRadius + 1, math.MinInt64, math.MaxInt64} {
		shaped(t, api.ErrShape, func(h *api.Shape) { h.Radius = radius })
	}
	for n := 1; n <= api.MaxPoints; n++ {
		shaped(t, api.OK, func(h *api.Shape) { h.Points = make([]api.Vec, n) })
	}
	for _, n := range []int{0, api.MaxPoints + 1, 100} {
		shaped(t, api.ErrShape, func(h *api.Shape) { h.Points = make([]api.Vec, n) })
	}
	shaped(t, api.ErrShape, func(h *api.Shape) { h.Points = nil })
	one := api.Scene{Robot: api.Robot{Joints: []api.Joint{joint("a", api.World)}}, Shapes: balls(-1, 0)}
	if got := scene.Check(one); got != api.OK {
		t.Error("one joint", got)
	}
	one.Shapes = balls(0, 1)
	if got := scene.Check(one); got != api.ErrShape {
		t.Error("one joint, link 1", got)
	}
}

// TestCheckLength checks P9.1: the components of the points of a shape.
func TestCheckLength(t *testing.T) {
	for point := range api.MaxPoints {
		for axis := range 3 {
			put := func(x int64) func(h *api.Shape) {
				return func(h *api.Shape) {
					h.Points = make([]api.Vec, api.MaxPoints)
					h.Points[point][axis] = x
				}
			}
			for _, x := range []int64{-api.MaxLength, -1, 1, api.MaxLength} {
				shaped(t, api.OK, put(x))
			}
			for _, x := range []int64{-api.MaxLength - 1, api.MaxLength + 1, math.MinInt64, math.MaxInt64} {
				shaped(t, api.ErrLength, put(x))
			}
		}
	}
}

// TestCheckOrder checks P9.1: the errors of shapes come shape by shape, ErrShape first, and then ErrSkip.
func TestCheckOrder(t *testing.T) {
	far := []api.Vec{{0, 0, api.MaxLength + 1}}
	shaped(t, api.ErrShape, func(h *api.Shape) { h.Link, h.Points = 5, far })
	shaped(t, api.ErrShape, func(h *api.Shape) { h.Radius, h.Points = 0, far })
	shaped(t, api.ErrShape, func(h *api.Shape) { h.Points = slices.Repeat(far, api.MaxPoints+1) })
	for first := range 5 {
		for second := first + 1; second < 6; second++ {
			checks(t, api.ErrLength, func(s *api.Scene) { s.Shapes[first].Points, s.Shapes[second].Radius = far, 0 })
			checks(t, api.ErrShape, func(s *api.Scene) { s.Shapes[first].Radius, s.Shapes[second].Points = 0, far })
		}
	}
	checks(t, api.ErrLength, func(s *api.Scene) { s.Shapes[5].Points, s.Skips[0].A = far, -2 })
	checks(t, api.ErrShape, func(s *api.Scene) { s.Shapes[5].Link = 5; s.Skips = make([]api.Skip, api.MaxSkips+1) })
}

// TestCheckSkips checks P9.1: at most MaxSkips skips of links, which may be equal or repeated.
func TestCheckSkips(t *testing.T) {
	for _, n := range []int{1, 2, api.MaxSkips - 1, api.MaxSkips} {
		checks(t, api.OK, func(s *api.Scene) { s.Skips = slices.Repeat([]api.Skip{{A: 2, B: -1}}, n) })
	}
	for _, n := range []int{api.MaxSkips + 1, 1000} {
		checks(t, api.ErrSkip, func(s *api.Scene) { s.Skips = make([]api.Skip, n) })
	}
	for a := api.World; a < 5; a++ {
		for b := api.World; b < 5; b++ {
			checks(t, api.OK, func(s *api.Scene) { s.Skips[1] = api.Skip{A: a, B: b} })
		}
	}
	for _, link := range []int{-2, 5, api.MaxJoints, least, greatest} {
		for place := range 2 {
			checks(t, api.ErrSkip, func(s *api.Scene) { s.Skips[place].A = link })
			checks(t, api.ErrSkip, func(s *api.Scene) { s.Skips[place].B = link })
			checks(t, api.ErrSkip, func(s *api.Scene) { s.Skips[place] = api.Skip{A: link, B: link}; s.Shapes = nil })
		}
	}
}

// TestSkipped checks P9.4: a skip has both links, in either order.
func TestSkipped(t *testing.T) {
	s := api.Scene{Robot: forked(), Skips: []api.Skip{{A: 0, B: 2}, {A: 3, B: -1}, {A: 4, B: 4}, {A: 2, B: 0}, {A: 1, B: 2}}}
	listed := [][2]int{{-1, 3}, {0, 2}, {1, 2}, {4, 4}}
	for a := -3; a < 8; a++ {
		for b := -3; b < 8; b++ {
			want := slices.Contains(listed, [2]int{min(a, b), max(a, b)})
			if got := scene.Skipped(s, a, b); got != want {
				t.Error(a, b, got)
			}
		}
	}
	if scene.Skipped(api.Scene{}, 0, 0) || scene.Skipped(api.Scene{}, api.World, api.World) {
		t.Error("no skips")
	}
}

// TestSkippedNotValid checks P9.4: Skipped depends on the skips alone, whatever the scene and the links are.
func TestSkippedNotValid(t *testing.T) {
	s := api.Scene{Skips: []api.Skip{{A: least, B: 9}, {A: 7, B: greatest}}}
	for _, x := range []struct {
		a, b int
		want bool
	}{{least, 9, true}, {9, least, true}, {greatest, 7, true}, {7, greatest, true}, {7, 9, false}, {least, greatest, false}, {9, 9, false}, {0, 0, false}} {
		if got := scene.Skipped(s, x.a, x.b); got != x.want {
			t.Error(x, got)
		}
	}
	many := api.Scene{Skips: make([]api.Skip, 1000)}
	many.Skips[999] = api.Skip{A: 5, B: 6}
	if !scene.Skipped(many, 6, 5) || !scene.Skipped(many, 0, 0) || scene.Skipped(many, 5, 5) {
		t.Error("many skips")
	}
}

// paired fails the test unless Pairs returns these pairs.
func paired(t *testing.T, s api.Scene, want ...api.Pair) {
	t.Helper()
	if got := scene.Pairs(s); !slices.Equal(got, want) {
		t.Errorf("Pairs(%+v) = %v, want %v", s, got, want)
	}
}

// TestPairsExample checks P9.4 with the chapter's examples.
func TestPairsExample(t *testing.T) {
	r := api.Robot{Joints: []api.Joint{joint("base", api.World)}}
	paired(t, api.Scene{Robot: r, Shapes: balls(0, api.World)}, api.Pair{A: 0, B: 1})
	paired(t, api.Scene{Robot: r, Shapes: balls(api.World, 0)}, api.Pair{A: 0, B: 1})
}

// TestPairs checks P9.4: the shapes of different links that can move against each other, in ascending order.
func TestPairs(t *testing.T) {
	r := forked()
	paired(t, api.Scene{Robot: r})
	paired(t, api.Scene{Robot: r, Shapes: balls(2)})
	paired(t, api.Scene{Robot: r, Shapes: balls(2, 2, 2)})
	paired(t, api.Scene{Robot: r, Shapes: balls(-1, -1)})
	paired(t, api.Scene{Robot: r, Shapes: balls(4, -1, 2, 4)}, api.Pair{A: 0, B: 1}, api.Pair{A: 0, B: 2}, api.Pair{A: 1, B: 2}, api.Pair{A: 1, B: 3}, api.Pair{A: 2, B: 3})
	paired(t, api.Scene{Robot: r, Shapes: balls(2, 3, 2, 0)}, api.Pair{A: 0, B: 1}, api.Pair{A: 0, B: 3}, api.Pair{A: 1, B: 2}, api.Pair{A: 1, B: 3}, api.Pair{A: 2, B: 3})
	paired(t, api.Scene{Robot: r, Shapes: balls(1, 0)}, api.Pair{A: 0, B: 1})
}

// TestPairsRigid checks P9.4: links between which no joint can move have no pairs.
func TestPairsRigid(t *testing.T) {
	r := api.Robot{Joints: []api.Joint{stiff("a", api.World), joint("b", 0), stiff("c", 1), stiff("d", 1), stiff("e", 2), joint("f", 3), stiff("g", api.World)}}
	shapes := balls(-1, 0, 1, 2, 3, 4, 5, 6)
	bodies := []int{0, 0, 1, 1, 1, 1, 2, 0}
	var want []api.Pair
	for a := range shapes {
		for b := a + 1; b < len(shapes); b++ {
			if bodies[a] != bodies[b] {
				want = append(want, api.Pair{A: a, B: b})
			}
		}
	}
	paired(t, api.Scene{Robot: r, Shapes: shapes}, want...)
	r.Joints[1].Lo = r.Joints[1].Hi
	paired(t, api.Scene{Robot: r, Shapes: shapes}, []api.Pair{{A: 0, B: 6}, {A: 1, B: 6}, {A: 2, B: 6}, {A: 3, B: 6}, {A: 4, B: 6}, {A: 5, B: 6}, {A: 6, B: 7}}...)
	// The least motion makes a pair.
	r.Joints[5].Lo, r.Joints[5].Hi, r.Joints[6].Hi = 7, 7, 301
	paired(t, api.Scene{Robot: r, Shapes: shapes}, []api.Pair{{A: 0, B: 7}, {A: 1, B: 7}, {A: 2, B: 7}, {A: 3, B: 7}, {A: 4, B: 7}, {A: 5, B: 7}, {A: 6, B: 7}}...)
}

// TestPairsSkipped checks P9.4: skipped links have no pairs, and all others keep theirs.
func TestPairsSkipped(t *testing.T) {
	s := api.Scene{Robot: forked(), Shapes: balls(0, -1, 2, 0), Skips: []api.Skip{{A: 0, B: 2}}}
	paired(t, s, api.Pair{A: 0, B: 1}, api.Pair{A: 1, B: 2}, api.Pair{A: 1, B: 3})
	s.Skips = []api.Skip{{A: -1, B: 0}, {A: -1, B: 0}, {A: 1, B: 1}}
	paired(t, s, api.Pair{A: 0, B: 2}, api.Pair{A: 1, B: 2}, api.Pair{A: 2, B: 3})
	s.Skips = []api.Skip{{A: 2, B: -1}, {A: 0, B: -1}, {A: 2, B: 0}}
	paired(t, s)
	s.Skips = []api.Skip{{A: 2, B: 2}, {A: 0, B: 1}, {A: 3, B: -1}}
	paired(t, s, api.Pair{A: 0, B: 1}, api.Pair{A: 0, B: 2}, api.Pair{A: 1, B: 2}, api.Pair{A: 1, B: 3}, api.Pair{A: 2, B: 3})
}

// TestPairsNotValid checks P9.4: no pairs in a scene that is not valid.
func TestPairsNotValid(t *testing.T) {
	if len(scene.Pairs(full())) == 0 {
		t.Fatal("no pairs")
	}
	for i, damage := range damages() {
		if got := scene.Pairs(changed(damage)); len(got) != 0 {
			t.Error(i, got)
		}
	}
	paired(t, api.Scene{})
}

// damages are changes that make the full scene invalid.
func damages() []func(s *api.Scene) {
	return []func(s *api.Scene){
		func(s *api.Scene) { s.Robot = api.Robot{} },
		func(s *api.Scene) { s.Robot.Joints[4].Weight = 0 },
		func(s *api.Scene) { s.Robot.Joints[2].Parent = 4 },
		func(s *api.Scene) { s.Robot.Joints[0].Parent = -2 },
		func(s *api.Scene) { s.Robot.Masses = []api.Mass{{}} },
		func(s *api.Scene) { s.Shapes = slices.Repeat(balls(0, -1), 13) },
		func(s *api.Scene) { s.Shapes[5].Link = 5 },
		func(s *api.Scene) { s.Shapes[0].Link = -2 },
		func(s *api.Scene) { s.Shapes[0].Link = least },
		func(s *api.Scene) { s.Shapes[0].Link = greatest },
		func(s *api.Scene) { s.Shapes[5].Radius = 0 },
		func(s *api.Scene) { s.Shapes[5].Points = nil },
		func(s *api.Scene) { s.Shapes[5].Points[0][1] = api.MaxLength + 1 },
		func(s *api.Scene) { s.Skips = make([]api.Skip, api.MaxSkips+1) },
		func(s *api.Scene) { s.Skips[1].A = 5 },
		func(s *api.Scene) { s.Skips[1].B = -2 },
	}
}

// moving returns the joints that can move between the world and a link, by the definition of a chain.
func moving(r api.Robot, link int) map[int]bool {
	found := map[int]bool{}
	for ; link != api.World; link = r.Joints[link].Parent {
		if r.Joints[link].Lo < r.Joints[link].Hi {
			found[link] = true
		}
	}
	return found
}

// apart reports whether a joint can move between two links.
func apart(r api.Robot, a, b int) bool {
	left, right := moving(r, a), moving(r, b)
	for number := range r.Joints {
		if left[number] != right[number] {
			return true
		}
	}
	return false
}

// TestPairsRandom compares Pairs with the definition of P9.4.
func TestPairsRandom(t *testing.T) {
	random := &source{state: 94}
	for round := range 3000 {
		s := random.scene(1 + round%api.MaxJoints)
		var want []api.Pair
		for a := range s.Shapes {
			for b := a + 1; b < len(s.Shapes); b++ {
				i, k := s.Shapes[a].Link, s.Shapes[b].Link
				if apart(s.Robot, i, k) != (i != k && !robot.Rigid(s.Robot, i, k)) {
					t.Fatal("apart", i, k)
				}
				skipped := slices.Contains(s.Skips, api.Skip{A: i, B: k}) || slices.Contains(s.Skips, api.Skip{A: k, B: i})
				if skipped != scene.Skipped(s, i, k) || skipped != scene.Skipped(s, k, i) {
					t.Fatalf("Skipped(%+v, %d, %d)", s, i, k)
				}
				if apart(s.Robot, i, k) && !skipped {
					want = append(want, api.Pair{A: a, B: b})
				}
			}
		}
		paired(t, s, want...)
	}
}

// TestPairsExchanged checks P9.5: exchanging A and B of a skip changes no pair.
func TestPairsExchanged(t *testing.T) {
	random := &source{state: 95}
	for round := range 1000 {
		s := random.scene(2 + round%(api.MaxJoints-1))
		want := scene.Pairs(s)
		for i := range s.Skips {
			s.Skips[i].A, s.Skips[i].B = s.Skips[i].B, s.Skips[i].A
			paired(t, s, want...)
		}
	}
}

// TestPairsImmobile checks P9.5: if no joint can move, there are no pairs.
func TestPairsImmobile(t *testing.T) {
	random := &source{state: 96}
	for round := range 1000 {
		s := random.scene(1 + round%api.MaxJoints)
		s.Skips = nil
		for i := range s.Robot.Joints {
			j := &s.Robot.Joints[i]
			j.Lo = j.Hi
			if random.below(3) == 0 {
				j.Kind, j.Lo, j.Hi = api.Fixed, 0, 0
			}
		}
		if scene.Check(s) != api.OK {
			t.Fatal("not valid", s)
		}
		paired(t, s)
	}
}

// TestSceneFresh checks P9.1 and P9.4 with R3: arguments are not changed, and results share no memory.
func TestSceneFresh(t *testing.T) {
	s, before := full(), full()
	first := scene.Pairs(s)
	second := scene.Pairs(s)
	clear(first[:cap(first)])
	paired(t, s, second...)
	scene.Check(s)
	scene.Skipped(s, 0, 1)
	if !equal(s, before) {
		t.Error("the scene is changed", s)
	}
	// A nil list and an empty one are equivalent.
	paired(t, api.Scene{Robot: forked(), Shapes: balls(0, 1), Skips: []api.Skip{}}, api.Pair{A: 0, B: 1})
}
