package angle_test

import (
	"math"
	"math/big"
	"testing"

	"armplan/angle"
	"armplan/api"
	"armplan/interval"
)

const (
	least    = math.MinInt64
	greatest = math.MaxInt64
	one      = api.One
	turn     = api.Turn
	quarter  = turn / 4
)

// of returns the interval from lo to hi.
func of(lo, hi int64) api.Interval {
	return api.Interval{Lo: lo, Hi: hi}
}

// floorOf returns floor(p / q).
func floorOf(p *big.Int, q int64) *big.Int {
	return new(big.Int).Div(p, big.NewInt(q))
}

// ceilOf returns ceil(p / q).
func ceilOf(p *big.Int, q int64) *big.Int {
	r := floorOf(new(big.Int).Neg(p), q)
	return r.Neg(r)
}

func product(p, q *big.Int) *big.Int {
	return new(big.Int).Mul(p, q)
}

// sum returns the sum of the numbers at even places minus the sum of those at odd places.
func sum(terms ...*big.Int) *big.Int {
	total := new(big.Int)
	for i, x := range terms {
		if i%2 == 0 {
			total.Add(total, x)
		} else {
			total.Sub(total, x)
		}
	}
	return total
}

// bounds returns the numbers ak and bk of the chapter, with t as a1 and u as b1.
func bounds(x int64) (a, b [11]*big.Int) {
	const k30 = 1 << 30
	a[1] = floorOf(product(big.NewInt(x), big.NewInt(6746518852)), 65536)
	b[1] = ceilOf(product(big.NewInt(x), big.NewInt(6746518853)), 65536)
	for k := 2; k <= 10; k++ {
		a[k] = floorOf(product(a[k-1], a[1]), k30)
		b[k] = ceilOf(product(b[k-1], b[1]), k30)
	}
	return a, b
}

// risingBounds returns L and U of the chapter for S(r).
func risingBounds(r int64) (low, high *big.Int) {
	if r <= 8192 {
		a, b := bounds(r)
		return sum(a[1], ceilOf(b[3], 6), floorOf(a[5], 120), ceilOf(b[7], 5040)),
			sum(b[1], floorOf(a[3], 6), ceilOf(b[5], 120), floorOf(a[7], 5040), ceilOf(b[9], 362880))
	}
	a, b := bounds(16384 - r)
	k := big.NewInt(1 << 30)
	return sum(k, ceilOf(b[2], 2), floorOf(a[4], 24), ceilOf(b[6], 720), floorOf(a[8], 40320), ceilOf(b[10], 3628800)),
		sum(k, floorOf(a[2], 2), ceilOf(b[4], 24), floorOf(a[6], 720), ceilOf(b[8], 40320))
}

// risingTable returns S(r) for all r from 0 to a quarter, computed with big numbers.
func risingTable() []api.Interval {
	table := make([]api.Interval, quarter+1)
	for r := range table {
		low, high := risingBounds(int64(r))
		table[r] = of(max(0, floorOf(low, 1<<14).Int64()), min(one, ceilOf(high, 1<<14).Int64()))
	}
	return table
}

// sines returns the results that the chapter requires of Sin for the angles of a whole turn.
func sines() []api.Interval {
	s := risingTable()
	var table []api.Interval
	for r := 0; r < quarter; r++ {
		table = append(table, s[r])
	}
	for r := quarter; r > 0; r-- {
		table = append(table, s[r])
	}
	for a := range 2 * quarter {
		table = append(table, of(-table[a].Hi, -table[a].Lo))
	}
	return table
}

// mod returns the number from 0 to m - 1 that differs from a by a multiple of m.
func mod(a, m int64) int64 {
	return new(big.Int).Mod(big.NewInt(a), big.NewInt(m)).Int64()
}

// angles returns angles near all eighths of some turns on both sides of 0, at the ends of valid intervals and at those of int64.
func angles() []int64 {
	list := []int64{least, least + 1, greatest - 1, greatest}
	for k := int64(-20); k <= 20; k++ {
		for _, d := range []int64{-1, 0, 1} {
			list = append(list, k*turn/8+d)
		}
	}
	for _, far := range []int64{api.Max, 1 << 40, 1 << 62} {
		for _, d := range []int64{-quarter, -1, 0, 1, 5000, quarter} {
			list = append(list, far+d, -far+d)
		}
	}
	return append(list, spread(200, 64)...)
}

// spread returns numbers of at most the given count of binary digits, of all sizes and both signs, by a fixed rule.
func spread(count, digits int) []int64 {
	list := make([]int64, count)
	state := uint64(1)
	for i := range list {
		state = state*6364136223846793005 + 1442695040888963407
		list[i] = int64(state) >> (64 - digits + i%digits)
	}
	return list
}

// intervals returns valid intervals of less than a turn, of just a turn and of more, with ends near the eighths of a turn and at the bounds.
func intervals() []api.Interval {
	ends := []int64{-api.Max, -api.Max + 1, -api.Max + 3*turn/4, api.Max - 3*turn/4, api.Max - 1, api.Max}
	for k := int64(-9); k <= 9; k++ {
		ends = append(ends, k*turn/8-1, k*turn/8, k*turn/8+1)
	}
	ends = append(ends, spread(20, 18)...)
	var list []api.Interval
	for _, lo := range ends {
		for _, hi := range ends {
			if lo <= hi {
				list = append(list, of(lo, hi))
			}
		}
	}
	return list
}

// broken returns intervals that are not valid.
func broken() []api.Interval {
	return []api.Interval{
		of(1, 0), of(5, 3), of(0, -1), of(-3, -5), of(quarter, 0), of(quarter+1, quarter), of(turn, 0), of(api.Max, -api.Max),
		of(0, api.Max+1), of(api.Max+1, api.Max+1), of(api.Max, api.Max+1), of(-api.Max-1, 0), of(-api.Max-1, -api.Max), of(-api.Max-1, api.Max+1),
		of(least, greatest), of(greatest, least), of(least, 0), of(0, greatest), of(0, least), of(greatest, 0),
		of(least, least), of(greatest, greatest), of(least, least+9), of(greatest-9, greatest), of(least, -api.Max), of(api.Max, greatest),
	}
}

// TestExamples checks the chapter's examples.
func TestExamples(t *testing.T) {
	for _, x := range []struct {
		a    int64
		want api.Interval
	}{{0, of(0, 0)}, {16384, of(65536, 65536)}, {1, of(6, 7)}} {
		if got := angle.Sin(x.a); got != x.want {
			t.Errorf("Sin(%d) = %v, want %v", x.a, got, x.want)
		}
	}
	if got := angle.SinOver(of(0, 65536)); got != of(-65536, 65536) {
		t.Errorf("SinOver(0..65536) = %v", got)
	}
}

// TestWorked checks P3.1 with values that were worked out apart from this program, near all bounds that the chapter names.
func TestWorked(t *testing.T) {
	for _, x := range []struct {
		a        int64
		sin, cos api.Interval
	}{
		{0, of(0, 0), of(one, one)},
		{1, of(6, 7), of(65535, one)},
		{-1, of(-7, -6), of(65535, one)},
		{100, of(628, 629), of(65532, 65533)},
		{3644, of(22432, 22434), of(61577, 61578)},
		{5461, of(32766, 32767), of(56756, 56757)},
		{8191, of(46336, 46337), of(46345, 46346)},
		{8192, of(46340, 46341), of(46340, 46341)},
		{8193, of(46345, 46346), of(46336, 46337)},
		{10923, of(56756, 56757), of(32766, 32767)},
		{16383, of(65535, one), of(6, 7)},
		{16384, of(one, one), of(0, 0)},
		{16385, of(65535, one), of(-7, -6)},
		{24575, of(46345, 46346), of(-46337, -46336)},
		{24576, of(46340, 46341), of(-46341, -46340)},
		{24577, of(46336, 46337), of(-46346, -46345)},
		{32767, of(6, 7), of(-one, -65535)},
		{32768, of(0, 0), of(-one, -one)},
		{32769, of(-7, -6), of(-one, -65535)},
		{40960, of(-46341, -46340), of(-46341, -46340)},
		{49151, of(-one, -65535), of(-7, -6)},
		{49152, of(-one, -one), of(0, 0)},
		{49153, of(-one, -65535), of(6, 7)},
		{57344, of(-46341, -46340), of(46340, 46341)},
		{65535, of(-7, -6), of(65535, one)},
		{65536, of(0, 0), of(one, one)},
		{65537, of(6, 7), of(65535, one)},
		{-3644, of(-22434, -22432), of(61577, 61578)},
		{-16383, of(-one, -65535), of(6, 7)},
		{-16384, of(-one, -one), of(0, 0)},
		{-16385, of(-one, -65535), of(-7, -6)},
		{-32768, of(0, 0), of(-one, -one)},
		{-65536, of(0, 0), of(one, one)},
		{-65537, of(-7, -6), of(65535, one)},
		{7*turn + 10923, of(56756, 56757), of(32766, 32767)},
		{-7*turn + 10923, of(56756, 56757), of(32766, 32767)},
		{least, of(0, 0), of(one, one)},
		{least + 1, of(6, 7), of(65535, one)},
		{least + 16384, of(one, one), of(0, 0)},
		{greatest, of(-7, -6), of(65535, one)},
		{greatest - 16383, of(-one, -one), of(0, 0)},
	} {
		if got := angle.Sin(x.a); got != x.sin {
			t.Errorf("Sin(%d) = %v, want %v", x.a, got, x.sin)
		}
		if got := angle.Cos(x.a); got != x.cos {
			t.Errorf("Cos(%d) = %v, want %v", x.a, got, x.cos)
		}
	}
}

// TestWholeTurn checks P3.1 for every angle of a turn against the series, computed with big numbers.
func TestWholeTurn(t *testing.T) {
	table := sines()
	for a, want := range table {
		if got := angle.Sin(int64(a)); got != want {
			t.Errorf("Sin(%d) = %v, want %v", a, got, want)
		}
		want = table[(a+quarter)%turn]
		if got := angle.Cos(int64(a)); got != want {
			t.Errorf("Cos(%d) = %v, want %v", a, got, want)
		}
	}
}

// TestTurns checks P3.1 for negative angles, angles of more than a turn, and the ends of int64.
func TestTurns(t *testing.T) {
	table := sines()
	for _, a := range angles() {
		place := mod(a, turn)
		if got, want := angle.Sin(a), table[place]; got != want {
			t.Errorf("Sin(%d) = %v, want %v", a, got, want)
		}
		if got, want := angle.Cos(a), table[(place+quarter)%turn]; got != want {
			t.Errorf("Cos(%d) = %v, want %v", a, got, want)
		}
	}
}

// TestOverExamples checks P3.2 with values that were worked out by hand.
func TestOverExamples(t *testing.T) {
	whole := of(-one, one)
	for _, x := range []struct{ a, sin, cos api.Interval }{
		{of(0, 0), of(0, 0), of(one, one)},
		{of(1, 1), of(6, 7), of(65535, one)},
		{of(8192, 8192), of(46340, 46341), of(46340, 46341)},
		{of(16384, 16384), of(one, one), of(0, 0)},
		{of(-8192, 8192), of(-46341, 46341), of(46340, one)},
		{of(0, 8192), of(0, 46341), of(46340, one)},
		{of(8192, 16384), of(46340, one), of(0, 46341)},
		{of(8192, 24576), of(46340, one), of(-46341, 46341)},
		{of(8192, 24577), of(46336, one), of(-46346, 46341)},
		{of(24576, 40960), of(-46341, 46341), of(-one, -46340)},
		{of(40960, 57344), of(-one, -46340), of(-46341, 46341)},
		{of(57344, 73728), of(-46341, 46341), of(46340, one)},
		{of(100, 200), of(628, 1257), of(65523, 65533)},
		{of(100, 10923), of(628, 56757), of(32766, 65533)},
		{of(-10923, 100), of(-56757, 629), of(32766, one)},
		{of(0, 32768), of(0, one), whole},
		{of(1, 32767), of(6, one), of(-one, one)},
		{of(0, 49151), of(-one, one), whole},
		{of(16385, 49151), of(-one, one), of(-one, -6)},
		{of(5000, 65535), whole, of(-one, one)},
		{of(0, 65535), whole, whole},
		{of(1, 65536), whole, whole},
		{of(0, 65536), whole, whole},
		{of(100, 65636), whole, whole},
		{of(100, 65637), whole, whole},
		{of(-api.Max, api.Max), whole, whole},
		{of(api.Max, api.Max), of(0, 0), of(one, one)},
		{of(-api.Max, -api.Max+1), of(0, 7), of(65535, one)},
		{of(api.Max-1, api.Max), of(-7, 0), of(65535, one)},
		{of(-api.Max, -api.Max+turn), whole, whole},
	} {
		if got := angle.SinOver(x.a); got != x.sin {
			t.Errorf("SinOver(%v) = %v, want %v", x.a, got, x.sin)
		}
		if got := angle.CosOver(x.a); got != x.cos {
			t.Errorf("CosOver(%v) = %v, want %v", x.a, got, x.cos)
		}
	}
}

// TestExtremes checks P3.2 for intervals that contain, touch or miss an angle with an extreme value, in several turns.
func TestExtremes(t *testing.T) {
	// Angles close to a quarter have sines whose upper bound is One too, so that missing the quarter would not show there.
	const near, far = 300, 500
	for k := int64(-3); k <= 3; k++ {
		for _, x := range []struct {
			over        func(a api.Interval) api.Interval
			at          func(a int64) api.Interval
			top, bottom int64
		}{
			{angle.SinOver, angle.Sin, k*turn + 16384, k*turn + 49152},
			{angle.CosOver, angle.Cos, k * turn, k*turn + 32768},
		} {
			high, low := x.at(x.top+far).Lo, x.at(x.bottom+far).Hi
			if got := x.over(of(x.top-near, x.top+far)); got != of(high, one) {
				t.Errorf("%d, top within: %v", k, got)
			}
			if got := x.over(of(x.top, x.top+far)); got != of(high, one) {
				t.Errorf("%d, top at the lower end: %v", k, got)
			}
			if got := x.over(of(x.top-far, x.top)); got != of(high, one) {
				t.Errorf("%d, top at the upper end: %v", k, got)
			}
			if got := x.over(of(x.top+near, x.top+far)); got != of(high, x.at(x.top+near).Hi) || got.Hi >= one {
				t.Errorf("%d, top missed: %v", k, got)
			}
			if got := x.over(of(x.bottom-near, x.bottom+far)); got != of(-one, low) {
				t.Errorf("%d, bottom within: %v", k, got)
			}
			if got := x.over(of(x.bottom, x.bottom+far)); got != of(-one, low) {
				t.Errorf("%d, bottom at the lower end: %v", k, got)
			}
			if got := x.over(of(x.bottom-far, x.bottom)); got != of(-one, low) {
				t.Errorf("%d, bottom at the upper end: %v", k, got)
			}
			if got := x.over(of(x.bottom+near, x.bottom+far)); got != of(x.at(x.bottom+near).Lo, low) || got.Lo <= -one {
				t.Errorf("%d, bottom missed: %v", k, got)
			}
		}
	}
}

// required returns what P3.2 requires for a valid interval, by a look at every integer in it. The table holds the results of the function at the angles of a turn.
func required(a api.Interval, table []api.Interval, top, bottom int64) api.Interval {
	if a.Hi-a.Lo >= turn {
		return of(-one, one)
	}
	left, right := table[mod(a.Lo, turn)], table[mod(a.Hi, turn)]
	low, high := min(left.Lo, right.Lo), max(left.Hi, right.Hi)
	place := mod(a.Lo, turn)
	for n := a.Lo; n <= a.Hi; n++ {
		switch place {
		case top:
			low, high = min(low, one), max(high, one)
		case bottom:
			low, high = min(low, -one), max(high, -one)
		}
		place = (place + 1) % turn
	}
	return of(low, high)
}

// TestOver checks P3.2 against its definition.
func TestOver(t *testing.T) {
	sin := sines()
	cos := append(append([]api.Interval{}, sin[quarter:]...), sin[:quarter]...)
	for _, a := range intervals() {
		if got, want := angle.SinOver(a), required(a, sin, 16384, 49152); got != want {
			t.Errorf("SinOver(%v) = %v, want %v", a, got, want)
		}
		if got, want := angle.CosOver(a), required(a, cos, 0, 32768); got != want {
			t.Errorf("CosOver(%v) = %v, want %v", a, got, want)
		}
	}
}

// TestPoints checks P3.2 for intervals of width 0.
func TestPoints(t *testing.T) {
	for a := int64(-turn); a <= 2*turn; a += 13 {
		if got, want := angle.SinOver(of(a, a)), angle.Sin(a); got != want {
			t.Errorf("SinOver(%d..%d) = %v, want %v", a, a, got, want)
		}
		if got, want := angle.CosOver(of(a, a)), angle.Cos(a); got != want {
			t.Errorf("CosOver(%d..%d) = %v, want %v", a, a, got, want)
		}
	}
}

// TestInvalid checks the last sentence of P3.2.
func TestInvalid(t *testing.T) {
	for _, a := range broken() {
		if got := angle.SinOver(a); got != (api.Interval{}) {
			t.Errorf("SinOver(%v) = %v", a, got)
		}
		if got := angle.CosOver(a); got != (api.Interval{}) {
			t.Errorf("CosOver(%v) = %v", a, got)
		}
	}
}

// exactSine returns the sine of the angle r in units of 1 / One, by its series, with an error of less than 2^-100.
func exactSine(r int64) *big.Float {
	const precision = 200
	number := func(x int64) *big.Float { return new(big.Float).SetPrec(precision).SetInt64(x) }
	x, _ := number(0).SetString("6.28318530717958647692528676655900576839433879875021164194988918461563281257")
	x.Mul(x, number(r)).Quo(x, number(turn))
	square := number(0).Mul(x, x)
	term, total := number(0).Copy(x), number(0)
	for k := int64(1); term.Sign() != 0 && term.MantExp(nil) > -150; k += 2 {
		total.Add(total, term)
		term.Mul(term, square).Quo(term, number(-(k+1)*(k+2)))
	}
	return total.Mul(total, number(one))
}

// TestEncloses checks the first sentence of P3.3 for the sines of the first quarter, far more exactly than by floats.
func TestEncloses(t *testing.T) {
	error100 := new(big.Float).SetMantExp(big.NewFloat(1), -100)
	for r := int64(0); r <= quarter; r++ {
		exact := exactSine(r)
		for _, got := range []api.Interval{angle.Sin(r), angle.Cos(quarter - r)} {
			below := new(big.Float).Sub(exact, new(big.Float).SetInt64(got.Lo))
			above := new(big.Float).Sub(new(big.Float).SetInt64(got.Hi), exact)
			if below.Add(below, error100).Sign() < 0 || above.Add(above, error100).Sign() < 0 {
				t.Errorf("the sine of %d is %v, which is not in %v", r, exact, got)
			}
		}
	}
}

// contains reports whether x lies in a, up to the errors of floats.
func contains(a api.Interval, x float64) bool {
	const tolerance = 1e-6
	return float64(a.Lo)-tolerance <= x && x <= float64(a.Hi)+tolerance
}

// sineOf and cosineOf return the sine and the cosine of an angle, in units of 1 / One.
func sineOf(a float64) float64   { return one * math.Sin(a*2*math.Pi/turn) }
func cosineOf(a float64) float64 { return one * math.Cos(a*2*math.Pi/turn) }

// TestEnclosesAll checks the first sentence of P3.3 in all quarters of several turns.
func TestEnclosesAll(t *testing.T) {
	for a := int64(-turn); a <= 2*turn; a++ {
		sin, cos := angle.Sin(a), angle.Cos(a)
		if !contains(sin, sineOf(float64(a))) || !contains(cos, cosineOf(float64(a))) {
			t.Errorf("%d: %v, %v", a, sin, cos)
		}
		if !interval.Valid(sin) || !interval.Valid(cos) || interval.Width(sin) > 2 || interval.Width(cos) > 2 {
			t.Errorf("%d: %v, %v have the widths %d and %d", a, sin, cos, interval.Width(sin), interval.Width(cos))
		}
	}
}

// TestRising checks the second sentence of P3.3: S is monotone.
func TestRising(t *testing.T) {
	for r := int64(0); r < quarter; r++ {
		here, next := angle.Sin(r), angle.Sin(r+1)
		if next.Lo < here.Lo || next.Hi < here.Hi {
			t.Errorf("S(%d) = %v, S(%d) = %v", r, here, r+1, next)
		}
	}
}

// TestOverEncloses checks the third sentence of P3.3 at real angles, integers and others.
func TestOverEncloses(t *testing.T) {
	const parts = 37
	for _, a := range intervals() {
		if math.Abs(float64(a.Lo)) > 1<<24 || math.Abs(float64(a.Hi)) > 1<<24 {
			continue // the reduction of the floats would be too inexact
		}
		sin, cos := angle.SinOver(a), angle.CosOver(a)
		for i := 0; i <= parts; i++ {
			x := float64(a.Lo) + float64(a.Hi-a.Lo)*float64(i)/parts
			if !contains(sin, sineOf(x)) || !contains(cos, cosineOf(x)) {
				t.Errorf("%v at %f: %v, %v", a, x, sin, cos)
			}
		}
	}
}

// TestOverMonotone checks the third sentence of P3.3 for intervals within others.
func TestOverMonotone(t *testing.T) {
	steps := []int64{0, 1, 2, 50, 3644, 8192, 16383, 16384, 32768, 65535, 65536, 200000}
	for _, a := range intervals() {
		sin, cos := angle.SinOver(a), angle.CosOver(a)
		for _, left := range steps {
			for _, right := range steps {
				b := of(max(a.Lo-left, -api.Max), min(a.Hi+right, api.Max))
				if !interval.Within(sin, angle.SinOver(b)) || !interval.Within(cos, angle.CosOver(b)) {
					t.Errorf("%v in %v: %v, %v", a, b, sin, cos)
				}
			}
		}
	}
}
