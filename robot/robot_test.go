package robot_test

import (
	"math"
	"slices"
	"strings"
	"testing"

	"armplan/api"
	"armplan/robot"
)

const (
	least    = math.MinInt64
	greatest = math.MaxInt64
	// furthest is the greatest limit of a turning joint.
	furthest = api.MaxTurns * api.Turn
)

// source yields numbers by a fixed rule.
type source struct{ state uint64 }

// below returns a number from 0 to n - 1.
func (s *source) below(n int) int {
	s.state = s.state*6364136223846793005 + 1442695040888963407
	return int(s.state >> 33 % uint64(n))
}

// from returns a number from lo to hi, often one of the two.
func (s *source) from(lo, hi int64) int64 {
	switch s.below(6) {
	case 0:
		return lo
	case 1:
		return hi
	}
	s.state = s.state*6364136223846793005 + 1442695040888963407
	return lo + int64((s.state>>16)%uint64(hi-lo+1))
}

// vec returns a vector of lengths.
func (s *source) vec() api.Vec {
	var v api.Vec
	for i := range v {
		v[i] = s.from(-api.MaxLength, api.MaxLength)
	}
	return v
}

// names are the names of the joints of random robots.
var names = []string{"a", "b", "base", "arm_1", "z9", "x_", "abcdefghijklmnop", "worlds", "worl", "joint"}

// robot returns a valid robot with a number of joints.
func (s *source) robot(joints int) api.Robot {
	var r api.Robot
	for i := range joints {
		kind := s.below(7)
		bound := bounds[kind]
		lo := s.from(-bound, bound)
		hi := s.from(lo, bound)
		if s.below(3) == 0 {
			hi = lo
		}
		r.Joints = append(r.Joints, api.Joint{
			Name: names[(i+joints)%len(names)], Kind: kind, Parent: s.below(i+1) - 1, Offset: s.vec(), Lo: lo, Hi: hi,
			Weight: s.from(1, api.MaxCost), Speed: s.from(1, api.MaxSpeed), Accel: s.from(1, api.MaxAccel), Torque: s.from(1, api.MaxTorque),
		})
	}
	for range s.below(5) {
		r.Masses = append(r.Masses, api.Mass{Link: s.below(joints), Mass: s.from(1, api.MaxMass), Point: s.vec()})
	}
	return r
}

// bounds are the greatest limits of the kinds of joints.
var bounds = []int64{0, furthest, furthest, furthest, api.MaxLength, api.MaxLength, api.MaxLength}

// joint returns a valid joint of the world.
func joint(name string) api.Joint {
	return api.Joint{Name: name, Kind: api.TurnZ, Parent: api.World, Lo: -16384, Hi: 16384, Weight: api.One / 64, Speed: 1, Accel: 1, Torque: 1}
}

// mass returns a valid mass of a link.
func mass(link int) api.Mass {
	return api.Mass{Link: link, Mass: 1}
}

// chained returns a valid robot whose joints follow one another.
func chained(joints int) api.Robot {
	var r api.Robot
	for i := range joints {
		j := joint(string(rune('a' + i)))
		j.Parent = i - 1
		r.Joints = append(r.Joints, j)
	}
	return r
}

// branched returns a valid robot with the chains a b d, a b e f, a c, g and g h.
func branched() api.Robot {
	r := chained(8)
	for i, parent := range []int{-1, 0, 0, 1, 1, 4, -1, 6} {
		r.Joints[i].Parent = parent
	}
	return r
}

// equal reports whether two robots are equal; nil and empty lists are the same.
func equal(a, b api.Robot) bool {
	return slices.Equal(a.Joints, b.Joints) && slices.Equal(a.Masses, b.Masses)
}

// checks fails the test unless Check returns the code for a robot.
func checks(t *testing.T, r api.Robot, want api.Errno) {
	t.Helper()
	if got := robot.Check(r); got != want {
		t.Errorf("Check(%+v) = %d, want %d", r, got, want)
	}
}

// changed checks P8.1 for a valid joint that is changed in one place.
func changed(t *testing.T, want api.Errno, change func(j *api.Joint)) {
	t.Helper()
	for place := range 3 {
		r := chained(3)
		change(&r.Joints[place])
		checks(t, r, want)
	}
}

// TestCheckJoints checks P8.1: 1 to MaxJoints joints.
func TestCheckJoints(t *testing.T) {
	checks(t, api.Robot{}, api.ErrJoints)
	checks(t, api.Robot{Joints: []api.Joint{}, Masses: []api.Mass{mass(0)}}, api.ErrJoints)
	for n := 1; n <= api.MaxJoints; n++ {
		checks(t, chained(n), api.OK)
	}
	checks(t, chained(api.MaxJoints+1), api.ErrJoints)
	checks(t, api.Robot{Joints: make([]api.Joint, 1000)}, api.ErrJoints)
}

// TestCheckName checks P8.1: names are names, and none occurs twice.
func TestCheckName(t *testing.T) {
	for _, name := range []string{"", "A", "1", "_a", "a b", "a-b", "aB", "world", "é", "a\x00", "a ", "abcdefghijklmnopq", strings.Repeat("a", 10000)} {
		changed(t, api.ErrName, func(j *api.Joint) { j.Name = name })
	}
	for _, name := range []string{"z", "a1_", "worl", "world1", "abcdefghijklmnop", "fixed", "joint"} {
		changed(t, api.OK, func(j *api.Joint) { j.Name = name })
	}
	for first := range 5 {
		for second := range 5 {
			r := chained(5)
			r.Joints[second].Name = r.Joints[first].Name
			if first == second {
				checks(t, r, api.OK)
				continue
			}
			checks(t, r, api.ErrName)
		}
	}
}

// TestCheckKind checks P8.1: the kinds from Fixed to SlideZ.
func TestCheckKind(t *testing.T) {
	for kind := api.Fixed; kind <= api.SlideZ; kind++ {
		changed(t, api.OK, func(j *api.Joint) { j.Kind, j.Lo, j.Hi = kind, 0, 0 })
	}
	for _, kind := range []int{-1, -2, 7, 8, math.MinInt, math.MaxInt, 1 << 32, -1 << 32} {
		changed(t, api.ErrKind, func(j *api.Joint) { j.Kind, j.Lo, j.Hi = kind, 0, 0 })
	}
}

// TestCheckParent checks P8.1: a parent is the world or an earlier joint.
func TestCheckParent(t *testing.T) {
	for number := range api.MaxJoints {
		for parent := -3; parent < api.MaxJoints+3; parent++ {
			r := chained(api.MaxJoints)
			r.Joints[number].Parent = parent
			want := api.ErrParent
			if parent >= -1 && parent < number {
				want = api.OK
			}
			checks(t, r, want)
		}
		for _, parent := range []int{math.MinInt, math.MaxInt} {
			r := chained(api.MaxJoints)
			r.Joints[number].Parent = parent
			checks(t, r, api.ErrParent)
		}
	}
}

// TestCheckLength checks P8.1: components of offsets from -MaxLength to MaxLength.
func TestCheckLength(t *testing.T) {
	for i := range 3 {
		for _, x := range []int64{-api.MaxLength, 0, api.MaxLength} {
			changed(t, api.OK, func(j *api.Joint) { j.Offset[i] = x })
		}
		for _, x := range []int64{least, -api.MaxLength - 1, api.MaxLength + 1, greatest} {
			changed(t, api.ErrLength, func(j *api.Joint) { j.Offset[i] = x })
		}
	}
}

// TestCheckLimits checks P8.1: limits in order and within the bounds of their kind.
func TestCheckLimits(t *testing.T) {
	for kind, bound := range bounds {
		for _, x := range []int64{least, least + 1, -bound - 2, -bound - 1, -bound, -1, 0, 1, bound, bound + 1, bound + 2, greatest} {
			for _, y := range []int64{least, least + 1, -bound - 2, -bound - 1, -bound, -1, 0, 1, bound, bound + 1, bound + 2, greatest} {
				want := api.ErrLimits
				if -bound <= x && x <= y && y <= bound {
					want = api.OK
				}
				changed(t, want, func(j *api.Joint) { j.Kind, j.Lo, j.Hi = kind, x, y })
			}
		}
	}
}

// TestCheckCost checks P8.1: weights, speeds, accelerations and torques from 1 to their bounds.
func TestCheckCost(t *testing.T) {
	for i, most := range []int64{1 << 10, 1 << 20, 1 << 20, 1 << 40} {
		field := func(j *api.Joint) *int64 { return []*int64{&j.Weight, &j.Speed, &j.Accel, &j.Torque}[i] }
		for _, n := range []int64{1, 2, most - 1, most} {
			changed(t, api.OK, func(j *api.Joint) { *field(j) = n })
		}
		for _, n := range []int64{least, -most, -1, 0, most + 1, greatest} {
			changed(t, api.ErrCost, func(j *api.Joint) { *field(j) = n })
		}
	}
}

// TestCheckMass checks P8.1: at most MaxMasses masses, with links, values and points within their bounds.
func TestCheckMass(t *testing.T) {
	permitted := []api.Mass{mass(0), mass(2), {Link: 1, Mass: api.MaxMass, Point: api.Vec{api.MaxLength, -api.MaxLength, 7}}}
	refused := []api.Mass{
		{}, mass(-1), mass(-2), mass(3), mass(math.MinInt), mass(math.MaxInt),
		{Mass: -1}, {Mass: api.MaxMass + 1}, {Mass: least}, {Mass: greatest},
	}
	for i := range 3 {
		for _, x := range []int64{least, -api.MaxLength - 1, api.MaxLength + 1, greatest} {
			m := mass(0)
			m.Point[i] = x
			refused = append(refused, m)
		}
	}
	r := chained(3)
	for place := range permitted {
		for _, m := range refused {
			r.Masses = slices.Clone(permitted)
			r.Masses[place] = m
			checks(t, r, api.ErrMass)
		}
	}
	r.Masses = permitted
	checks(t, r, api.OK)
	r.Masses = slices.Repeat([]api.Mass{mass(0)}, api.MaxMasses)
	checks(t, r, api.OK)
	r.Masses = append(r.Masses, mass(0))
	checks(t, r, api.ErrMass)
}

// TestCheckOrder checks P8.1: of two errors the one that is named first is returned, and that of the first joint.
func TestCheckOrder(t *testing.T) {
	faults := []struct {
		code   api.Errno
		damage func(j *api.Joint)
	}{
		{api.ErrName, func(j *api.Joint) { j.Name = "world" }},
		{api.ErrKind, func(j *api.Joint) { j.Kind = 7 }},
		{api.ErrParent, func(j *api.Joint) { j.Parent = -2 }},
		{api.ErrLength, func(j *api.Joint) { j.Offset[2] = api.MaxLength + 1 }},
		{api.ErrLimits, func(j *api.Joint) { j.Hi = j.Lo - 1 }},
		{api.ErrCost, func(j *api.Joint) { j.Torque = 0 }},
	}
	for i, first := range faults {
		for k, second := range faults {
			r := chained(2)
			r.Masses = []api.Mass{{}}
			first.damage(&r.Joints[1])
			second.damage(&r.Joints[1])
			checks(t, r, faults[min(i, k)].code)
			r = chained(2)
			first.damage(&r.Joints[0])
			second.damage(&r.Joints[1])
			checks(t, r, first.code)
			r.Joints = append(r.Joints, chained(api.MaxJoints).Joints...)
			checks(t, r, api.ErrJoints)
		}
	}
	// A name that occurs twice comes before the other errors of its joint, and after those of the joint before it.
	r := chained(2)
	r.Joints[1].Name, r.Joints[1].Kind = "a", 7
	checks(t, r, api.ErrName)
	r.Joints[0].Torque = 0
	checks(t, r, api.ErrCost)
}

// TestFind checks P8.4: the number of the first joint with a name, whether or not the robot is valid.
func TestFind(t *testing.T) {
	r := chained(3)
	for name, want := range map[string]int{"a": 0, "b": 1, "c": 2, "d": -1, "": -1, "A": -1, "ab": -1, "world": -1, "a ": -1} {
		if got := robot.Find(r, name); got != want {
			t.Errorf("Find(%q) = %d, want %d", name, got, want)
		}
	}
	if got := robot.Find(api.Robot{}, ""); got != -1 {
		t.Error("in no joints", got)
	}
	invalid := api.Robot{Joints: []api.Joint{{Name: "b"}, {Name: "\xff"}, {Name: "b"}, {}, {Name: "world"}, {}, {Name: "b"}}}
	for name, want := range map[string]int{"b": 0, "\xff": 1, "": 3, "world": 4, "a": -1, "\ufffd": -1} {
		if got := robot.Find(invalid, name); got != want {
			t.Errorf("Find(%q) = %d, want %d", name, got, want)
		}
	}
}

// TestChain checks P8.4: the joints from the world to a link.
func TestChain(t *testing.T) {
	r := branched()
	for link, want := range [][]int{{0}, {0, 1}, {0, 2}, {0, 1, 3}, {0, 1, 4}, {0, 1, 4, 5}, {6}, {6, 7}} {
		if got := robot.Chain(r, link); !slices.Equal(got, want) {
			t.Errorf("Chain(%d) = %v, want %v", link, got, want)
		}
	}
	if got := robot.Chain(r, api.World); len(got) != 0 {
		t.Error("of the world", got)
	}
	if got, want := robot.Chain(chained(10), 9), []int{0, 1, 2, 3, 4, 5, 6, 7, 8, 9}; !slices.Equal(got, want) {
		t.Error("the longest chain", got)
	}
	if got := robot.Chain(chained(1), 0); !slices.Equal(got, []int{0}) {
		t.Error("the shortest chain", got)
	}
}

// TestBetween checks P8.4: the joints that belong to exactly one of two chains.
func TestBetween(t *testing.T) {
	r := branched()
	for _, c := range []struct {
		a, b int
		want []int
	}{
		{5, 3, []int{3, 4, 5}}, {5, 2, []int{1, 2, 4, 5}}, {5, 1, []int{4, 5}}, {5, 4, []int{5}}, {5, 0, []int{1, 4, 5}},
		{2, 7, []int{0, 2, 6, 7}}, {0, 6, []int{0, 6}}, {5, 7, []int{0, 1, 4, 5, 6, 7}}, {1, 2, []int{1, 2}},
		{5, api.World, []int{0, 1, 4, 5}}, {0, api.World, []int{0}}, {7, api.World, []int{6, 7}}, {api.World, api.World, nil}, {5, 5, nil},
	} {
		if got := robot.Between(r, c.a, c.b); !slices.Equal(got, c.want) {
			t.Errorf("Between(%d, %d) = %v, want %v", c.a, c.b, got, c.want)
		}
		if got := robot.Between(r, c.b, c.a); !slices.Equal(got, c.want) {
			t.Errorf("Between(%d, %d) = %v, want %v", c.b, c.a, got, c.want)
		}
	}
}

// TestBetweenParent checks the chapter's example: between a link and its parent is the joint of the link alone.
func TestBetweenParent(t *testing.T) {
	r := branched()
	for link, j := range r.Joints {
		if got := robot.Between(r, link, j.Parent); !slices.Equal(got, []int{link}) {
			t.Error(link, got)
		}
	}
}

// TestRigid checks P8.4: two links are rigid to each other if no joint between them can move.
func TestRigid(t *testing.T) {
	for still := range 8 {
		r := branched()
		r.Joints[still].Lo = r.Joints[still].Hi
		for a := -1; a < 8; a++ {
			for b := -1; b < 8; b++ {
				parent := r.Joints[still].Parent
				want := a == b || a == still && b == parent || b == still && a == parent
				if got := robot.Rigid(r, a, b); got != want {
					t.Errorf("joint %d still: Rigid(%d, %d) = %v", still, a, b, got)
				}
			}
		}
	}
	r := branched()
	for i := range r.Joints {
		r.Joints[i].Lo = r.Joints[i].Hi
	}
	r.Joints[4].Lo--
	for a, left := range []bool{false, false, false, false, true, true, false, false, false} {
		for b, right := range []bool{false, false, false, false, true, true, false, false, false} {
			if got := robot.Rigid(r, a%8, b%8); got != (left == right) {
				t.Errorf("joint 4 moves: Rigid(%d, %d) = %v", a%8, b%8, got)
			}
		}
		if got := robot.Rigid(r, a%8, api.World); got == left {
			t.Errorf("joint 4 moves: Rigid(%d, World) = %v", a%8, got)
		}
	}
}

// nothing fails the test unless there is nothing between two links, and they are not rigid to each other.
func nothing(t *testing.T, r api.Robot, a, b int) {
	t.Helper()
	if got := robot.Between(r, a, b); len(got) != 0 {
		t.Errorf("Between(%d, %d) = %v", a, b, got)
	}
	if robot.Rigid(r, a, b) {
		t.Errorf("Rigid(%d, %d)", a, b)
	}
}

// TestNoLink checks P8.4: nothing for a number that is that of no link.
func TestNoLink(t *testing.T) {
	for _, joints := range []int{1, 3, 10} {
		r := chained(joints)
		for _, link := range []int{math.MinInt, -2, joints, joints + 1, math.MaxInt} {
			if got := robot.Chain(r, link); len(got) != 0 {
				t.Errorf("Chain(%d) = %v", link, got)
			}
			for other := -1; other < joints; other++ {
				nothing(t, r, link, other)
				nothing(t, r, other, link)
			}
			nothing(t, r, link, link)
		}
	}
}

// TestNotValid checks P8.4: nothing for a robot that is not valid, whatever is wrong with it.
func TestNotValid(t *testing.T) {
	loop := chained(3)
	loop.Joints[0].Parent = 2
	self := chained(3)
	self.Joints[1].Parent = 1
	below := chained(3)
	below.Joints[1].Parent = -2
	beyond := chained(3)
	beyond.Joints[1].Parent = 7
	name := chained(3)
	name.Joints[2].Name = "a"
	cost := chained(3)
	cost.Joints[2].Weight = 0
	heavy := chained(3)
	heavy.Masses = []api.Mass{{Link: 0}}
	for _, r := range []api.Robot{{}, loop, self, below, beyond, name, cost, heavy, chained(11), chained(26)} {
		for a := -2; a < 28; a++ {
			if got := robot.Chain(r, a); len(got) != 0 {
				t.Errorf("Chain(%d) = %v", a, got)
			}
			for b := -2; b < 28; b++ {
				nothing(t, r, a, b)
			}
		}
	}
}

// above lists the joints between a link and the world by their parents, the joint of the link last.
func above(r api.Robot, link int) []int {
	if link == api.World {
		return nil
	}
	return append(above(r, r.Joints[link].Parent), link)
}

// TestTrees checks P8.4 and P8.5 on random robots: chains, the joints between two links, and rigidity as they are defined.
func TestTrees(t *testing.T) {
	s := &source{state: 81}
	rigid := 0
	for round := range 400 {
		r := s.robot(1 + round%api.MaxJoints)
		for a := -1; a < len(r.Joints); a++ {
			left := above(r, a)
			if got := robot.Chain(r, a); !slices.Equal(got, left) {
				t.Fatalf("Chain(%+v, %d) = %v", r, a, got)
			}
			for b := -1; b < len(r.Joints); b++ {
				var want []int
				still := true
				for i, j := range r.Joints {
					if slices.Contains(left, i) != slices.Contains(above(r, b), i) {
						want = append(want, i)
						still = still && j.Lo == j.Hi
					}
				}
				got, back := robot.Between(r, a, b), robot.Between(r, b, a)
				if !slices.Equal(got, want) || !slices.Equal(back, want) || a == b && len(got) != 0 {
					t.Fatalf("Between(%+v, %d, %d) = %v, %v", r, a, b, got, back)
				}
				if robot.Rigid(r, a, b) != still {
					t.Fatalf("Rigid(%+v, %d, %d)", r, a, b)
				}
				if still && a != b {
					rigid++
				}
			}
		}
	}
	if rigid < 100 {
		t.Error("too few links that are rigid to each other", rigid)
	}
}

// TestTreesFresh checks P8.4 with R3: results are new lists, and the robot is not changed.
func TestTreesFresh(t *testing.T) {
	r := branched()
	r.Masses = []api.Mass{mass(1)}
	robot.Check(r)
	robot.Find(r, "a")
	robot.Rigid(r, 5, 7)
	for range 2 {
		chain, between := robot.Chain(r, 5), robot.Between(r, 5, 7)
		if !slices.Equal(chain, []int{0, 1, 4, 5}) || !slices.Equal(between, []int{0, 1, 4, 5, 6, 7}) {
			t.Error(chain, between)
		}
		clear(chain[:cap(chain)])
		clear(between[:cap(between)])
	}
	want := branched()
	want.Masses = []api.Mass{mass(1)}
	if !equal(r, want) {
		t.Error(r)
	}
}
