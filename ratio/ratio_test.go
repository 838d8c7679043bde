package ratio_test

import (
	"math"
	"math/big"
	"slices"
	"strings"
	"testing"

	"pagewatch/api"
	"pagewatch/ratio"
)

const (
	most  = 1 << 62
	fifth = (most + 1) / 5 // five of it are one too many
)

func r(num, den int) api.Ratio { return api.Ratio{Num: num, Den: den} }

// numbers are small, at the square root of the greatest one, and at and beyond the bounds.
func numbers() []int {
	return []int{
		math.MinInt, math.MinInt + 1, -most - 1, -most, -most + 1, -most / 2, -1 << 32, -1<<31 - 1, -1 << 31, -12, -7, -6, -5, -4, -3, -2, -1,
		0, 1, 2, 3, 4, 5, 6, 7, 9, 10, 12, 1<<31 - 1, 1 << 31, 1<<31 + 1, 1 << 32, 3 << 40, fifth, most / 3, most/2 - 1, most / 2, most/2 + 1,
		most - 3, most - 2, most - 1, most, most + 1, math.MaxInt - 1, math.MaxInt,
	}
}

// invalidRatios breaks each rule of a ratio.
func invalidRatios() []api.Ratio {
	return []api.Ratio{
		{}, r(1, 0), r(-1, 0), r(most, 0),
		r(0, -1), r(1, -1), r(-1, -1), r(1, -2), r(1, -most), r(1, math.MinInt),
		r(0, 2), r(0, 3), r(0, most), r(2, 2), r(2, 4), r(4, 2), r(-2, 4), r(-6, 9), r(10, 15), r(most, 2), r(2, most), r(most, most), r(-most, most),
		r(most+1, 1), r(-most-1, 1), r(math.MaxInt, 1), r(math.MinInt, 1), r(math.MinInt, 3), r(math.MinInt, 2), r(math.MinInt, math.MinInt),
		r(1, most+1), r(0, most+1), r(1, math.MaxInt), r(math.MaxInt, math.MaxInt), r(most+1, most+1),
	}
}

// ratios are the valid ones of the numbers.
func ratios() []api.Ratio {
	var all []api.Ratio
	for _, num := range numbers() {
		for _, den := range numbers() {
			if wantValid(r(num, den)) {
				all = append(all, r(num, den))
			}
		}
	}
	return all
}

// The following functions say what the promises say, in numbers without bounds.

func wantValid(x api.Ratio) bool {
	if x.Den < 1 || x.Den > most || x.Num < -most || x.Num > most {
		return false
	}
	num := new(big.Int).Abs(big.NewInt(int64(x.Num)))
	return new(big.Int).GCD(nil, nil, num, big.NewInt(int64(x.Den))).Cmp(big.NewInt(1)) == 0
}

func exact(x api.Ratio) *big.Rat { return big.NewRat(int64(x.Num), int64(x.Den)) }

func fits(n *big.Int) bool { return n.CmpAbs(big.NewInt(most)) <= 0 }

// wantOf returns q as a ratio: ErrLimit if it is not a valid one.
func wantOf(q *big.Rat) (api.Ratio, api.Errno) {
	if !fits(q.Num()) || !fits(q.Denom()) {
		return api.Ratio{}, api.ErrLimit
	}
	return r(int(q.Num().Int64()), int(q.Denom().Int64())), api.OK
}

func wantSum(a, b api.Ratio, sign int64) (api.Ratio, api.Errno) {
	p, q := big.NewInt(int64(a.Den)), big.NewInt(int64(b.Den))
	g := new(big.Int).GCD(nil, nil, p, q)
	x := new(big.Int).Mul(big.NewInt(int64(a.Num)), new(big.Int).Div(q, g))
	y := new(big.Int).Mul(big.NewInt(sign*int64(b.Num)), new(big.Int).Div(p, g))
	d := new(big.Int).Mul(new(big.Int).Div(p, g), q)
	n := new(big.Int).Add(x, y)
	if !fits(x) || !fits(y) || !fits(n) || !fits(d) {
		return api.Ratio{}, api.ErrLimit
	}
	return wantOf(new(big.Rat).SetFrac(n, d))
}

// wantText writes a ratio whether it is valid or not.
func wantText(x api.Ratio) string {
	text := big.NewInt(int64(x.Num)).String()
	if x.Den != 1 {
		text += "/" + big.NewInt(int64(x.Den)).String()
	}
	return text
}

// P2.1

func TestValid(t *testing.T) {
	for _, x := range []api.Ratio{
		r(0, 1), r(1, 1), r(-1, 1), r(1, 2), r(-1, 2), r(3, 2), r(6, 35), r(-35, 6),
		r(most, 1), r(-most, 1), r(1, most), r(-1, most), r(most, most-1), r(most-1, most), r(-most+1, most), r(-most, most-1),
	} {
		if !ratio.Valid(x) {
			t.Errorf("Valid(%v) is false", x)
		}
	}
	for _, x := range invalidRatios() {
		if ratio.Valid(x) {
			t.Errorf("Valid(%v) is true", x)
		}
	}
}

func TestValidOfAllNumbers(t *testing.T) {
	for _, num := range numbers() {
		for _, den := range numbers() {
			if got, want := ratio.Valid(r(num, den)), wantValid(r(num, den)); got != want {
				t.Errorf("Valid(%d / %d) = %t", num, den, got)
			}
		}
	}
}

func TestNew(t *testing.T) {
	for i, x := range []struct {
		num, den int
		want     api.Ratio
	}{
		{1, 2, r(1, 2)}, {2, 4, r(1, 2)}, {-2, 4, r(-1, 2)}, {6, 4, r(3, 2)}, {-6, 4, r(-3, 2)}, {12, 4, r(3, 1)}, {4, 12, r(1, 3)}, {7, 7, r(1, 1)}, {-7, 7, r(-1, 1)},
		{0, 1, r(0, 1)}, {0, 7, r(0, 1)}, {0, most, r(0, 1)}, {17, 1, r(17, 1)}, {-17, 1, r(-17, 1)}, {144, 89, r(144, 89)},
		{most, 1, r(most, 1)}, {-most, 1, r(-most, 1)}, {1, most, r(1, most)}, {-1, most, r(-1, most)}, {most, most, r(1, 1)}, {-most, most, r(-1, 1)},
		{2, most, r(1, most/2)}, {most, 2, r(most/2, 1)}, {most - 1, most, r(most-1, most)}, {most - 1, 3, r((most-1)/3, 1)},
	} {
		if got, e := ratio.New(x.num, x.den); got != x.want || e != api.OK {
			t.Errorf("%d: New(%d, %d) = %v, %d, want %v", i, x.num, x.den, got, e, x.want)
		}
	}
}

func TestNewOfAllNumbers(t *testing.T) {
	for _, num := range numbers() {
		for _, den := range numbers() {
			want, wantError := api.Ratio{}, api.ErrRange
			if den >= 1 && den <= most && num >= -most && num <= most {
				want, wantError = wantOf(big.NewRat(int64(num), int64(den)))
			}
			if got, e := ratio.New(num, den); got != want || e != wantError {
				t.Errorf("New(%d, %d) = %v, %d, want %v, %d", num, den, got, e, want, wantError)
			}
		}
	}
}

func TestNewOutOfRange(t *testing.T) {
	for _, x := range invalidRatios() {
		if x.Den >= 1 && x.Den <= most && x.Num >= -most && x.Num <= most {
			continue // these are only not in lowest terms
		}
		if got, e := ratio.New(x.Num, x.Den); got != (api.Ratio{}) || e != api.ErrRange {
			t.Errorf("New(%d, %d) = %v, %d", x.Num, x.Den, got, e)
		}
	}
}

// P2.2

func TestSums(t *testing.T) {
	for i, x := range []struct{ a, b, sum api.Ratio }{
		{r(1, 6), r(1, 3), r(1, 2)}, {r(1, 2), r(1, 2), r(1, 1)}, {r(1, 2), r(-1, 2), r(0, 1)}, {r(0, 1), r(0, 1), r(0, 1)}, {r(0, 1), r(-5, 7), r(-5, 7)},
		{r(3, 4), r(5, 6), r(19, 12)}, {r(-3, 4), r(5, 6), r(1, 12)}, {r(1, 10), r(1, 15), r(1, 6)}, {r(-1, 6), r(-1, 3), r(-1, 2)}, {r(2, 3), r(3, 5), r(19, 15)},
		// At the bounds: x + y, x and y, and d.
		{r(most-1, 1), r(1, 1), r(most, 1)}, {r(-most+1, 1), r(-1, 1), r(-most, 1)}, {r(most, 1), r(-most, 1), r(0, 1)}, {r(most, 1), r(0, 1), r(most, 1)}, {r(-most, 1), r(0, 1), r(-most, 1)},
		{r(most/2, 3), r(-1, 6), r((most-1)/3, 2)}, {r(-most/2, 3), r(1, 6), r(-(most-1)/3, 2)}, {r(most/2, 1), r(-1, 2), r(most-1, 2)},
		{r(1, most), r(1, most), r(1, most/2)}, {r(0, 1), r(1, most), r(1, most)}, {r(1, most), r(1, 2), r(most/2+1, most)}, {r(1, 1<<31-1), r(1, 1<<31+1), r(1<<32, most-1)},
	} {
		for _, pair := range [][2]api.Ratio{{x.a, x.b}, {x.b, x.a}} {
			if got, e := ratio.Add(pair[0], pair[1]); got != x.sum || e != api.OK {
				t.Errorf("%d: Add(%v, %v) = %v, %d, want %v", i, pair[0], pair[1], got, e, x.sum)
			}
			if got, e := ratio.Sub(pair[0], r(-pair[1].Num, pair[1].Den)); got != x.sum || e != api.OK {
				t.Errorf("%d: Sub of %v and the opposite of %v = %v, %d, want %v", i, pair[0], pair[1], got, e, x.sum)
			}
		}
	}
}

func TestDifferences(t *testing.T) {
	for i, x := range []struct{ a, b, want api.Ratio }{
		{r(1, 2), r(1, 3), r(1, 6)}, {r(1, 3), r(1, 2), r(-1, 6)}, {r(1, 3), r(1, 3), r(0, 1)}, {r(0, 1), r(1, 3), r(-1, 3)}, {r(0, 1), r(-1, 3), r(1, 3)}, {r(1, 3), r(0, 1), r(1, 3)},
		{r(most, 1), r(most, 1), r(0, 1)}, {r(-most, 1), r(-most, 1), r(0, 1)}, {r(0, 1), r(most, 1), r(-most, 1)}, {r(0, 1), r(-most, 1), r(most, 1)},
	} {
		if got, e := ratio.Sub(x.a, x.b); got != x.want || e != api.OK {
			t.Errorf("%d: Sub(%v, %v) = %v, %d, want %v", i, x.a, x.b, got, e, x.want)
		}
	}
}

func TestSumsBeyondTheLimit(t *testing.T) {
	for i, x := range []struct{ a, b api.Ratio }{
		// x + y
		{r(most, 1), r(1, 1)}, {r(-most, 1), r(-1, 1)}, {r(most, 1), r(most, 1)}, {r(-most, 1), r(-most, 1)}, {r(most/2+1, 1), r(most/2, 1)}, {r(most/2, 3), r(1, 6)},
		// x + y, although the sum in lowest terms is (2^62 - 1)/1 or its opposite
		{r(most-1, 2), r(most-1, 2)}, {r(-most+1, 2), r(-most+1, 2)},
		// x or y, although the sum in lowest terms is (2^62 + 3)/6 or its opposite
		{r(most, 3), r(-most+3, 6)}, {r(-most, 3), r(most-3, 6)},
		// x or y, also if it is in range again in 64 bits
		{r(most, 3), r(1, 2)}, {r(-most, 3), r(-1, 2)}, {r(most-1, 1), r(1, most)}, {r(-most+1, 1), r(1, most)},
		// x, y or d is 2^62 + 1 or its opposite, also where x + y is not
		{r(fifth, 1), r(-1, 5)}, {r(-fifth, 1), r(1, 5)}, {r(1, fifth), r(1, 5)},
		// d
		{r(1, most), r(1, most-1)}, {r(1, most), r(-1, most-1)}, {r(1, 1<<31+1), r(1, 1<<31+3)}, {r(1, most), r(1, 3)}, {r(1, 1<<31), r(1, 1<<31+1)},
		// d, although the sum in lowest terms is 2^31/(2^62 - 1)
		{r(1, 2<<31-2), r(1, 2<<31+2)}, {r(-1, 2<<31-2), r(-1, 2<<31+2)},
	} {
		for _, pair := range [][2]api.Ratio{{x.a, x.b}, {x.b, x.a}} {
			if got, e := ratio.Add(pair[0], pair[1]); got != (api.Ratio{}) || e != api.ErrLimit {
				t.Errorf("%d: Add(%v, %v) = %v, %d", i, pair[0], pair[1], got, e)
			}
			if got, e := ratio.Sub(pair[0], r(-pair[1].Num, pair[1].Den)); got != (api.Ratio{}) || e != api.ErrLimit {
				t.Errorf("%d: Sub of %v and the opposite of %v = %v, %d", i, pair[0], pair[1], got, e)
			}
		}
	}
}

func TestSumsOfAllRatios(t *testing.T) {
	all := ratios()
	for _, a := range all {
		for _, b := range all {
			want, wantError := wantSum(a, b, 1)
			if got, e := ratio.Add(a, b); got != want || e != wantError {
				t.Fatalf("Add(%v, %v) = %v, %d, want %v, %d", a, b, got, e, want, wantError)
			}
			want, wantError = wantSum(a, b, -1)
			if got, e := ratio.Sub(a, b); got != want || e != wantError {
				t.Fatalf("Sub(%v, %v) = %v, %d, want %v, %d", a, b, got, e, want, wantError)
			}
		}
	}
}

// P2.3

func TestProducts(t *testing.T) {
	for i, x := range []struct{ a, b, want api.Ratio }{
		{r(2, 3), r(3, 4), r(1, 2)}, {r(-2, 3), r(3, 4), r(-1, 2)}, {r(-2, 3), r(-3, 4), r(1, 2)}, {r(2, 3), r(5, 7), r(10, 21)}, {r(4, 9), r(15, 14), r(10, 21)}, {r(3, 1), r(5, 1), r(15, 1)},
		{r(0, 1), r(0, 1), r(0, 1)}, {r(0, 1), r(-7, 2), r(0, 1)}, {r(0, 1), r(most, 1), r(0, 1)}, {r(0, 1), r(1, most), r(0, 1)}, {r(1, 1), r(-most, 1), r(-most, 1)},
		// At the bounds.
		{r(1<<31, 1), r(1<<31, 1), r(most, 1)}, {r(1<<31, 1), r(-1<<31, 1), r(-most, 1)}, {r(most/2, 1), r(2, 1), r(most, 1)}, {r(1, 1<<31), r(1, 1<<31), r(1, most)}, {r(1, most/2), r(-1, 2), r(-1, most)},
		// The products are too large, what is left in lowest terms is not.
		{r(most-1, 1), r(1, most-1), r(1, 1)}, {r(-most, 1), r(1, most), r(-1, 1)}, {r(most, most-1), r(most-1, most), r(1, 1)}, {r(most, most-1), r(1-most, most), r(-1, 1)},
		{r(most, 3), r(3, 2), r(most/2, 1)}, {r(3, most), r(2, 3), r(1, most/2)}, {r(most/2, 3), r(6, 1), r(most, 1)}, {r(-3, most/2), r(1, 6), r(-1, most)},
	} {
		for _, pair := range [][2]api.Ratio{{x.a, x.b}, {x.b, x.a}} {
			if got, e := ratio.Mul(pair[0], pair[1]); got != x.want || e != api.OK {
				t.Errorf("%d: Mul(%v, %v) = %v, %d, want %v", i, pair[0], pair[1], got, e, x.want)
			}
		}
	}
}

func TestProductsBeyondTheLimit(t *testing.T) {
	for i, x := range []struct{ a, b api.Ratio }{
		{r(most, 1), r(2, 1)}, {r(-most, 1), r(2, 1)}, {r(-most, 1), r(-2, 1)}, {r(most, 1), r(most, 1)}, {r(1<<31, 1), r(1<<31+1, 1)}, {r(most/2+1, 1), r(2, 1)}, {r(4, 1), r(most, 1)}, {r(fifth, 1), r(5, 1)}, {r(-fifth, 1), r(5, 1)}, {r(1, fifth), r(1, 5)},
		{r(1, most), r(1, 2)}, {r(1, most), r(-1, most)}, {r(1, 1<<31), r(1, 1<<31+1)}, {r(1, most/2+1), r(1, 2)}, {r(1, 4), r(1, most)},
		{r(most, 3), r(4, 1)}, {r(3, most), r(1, 4)}, {r(most-1, most), r(most-1, most)}, {r(most, most-1), r(most, most-1)},
	} {
		for _, pair := range [][2]api.Ratio{{x.a, x.b}, {x.b, x.a}} {
			if got, e := ratio.Mul(pair[0], pair[1]); got != (api.Ratio{}) || e != api.ErrLimit {
				t.Errorf("%d: Mul(%v, %v) = %v, %d", i, pair[0], pair[1], got, e)
			}
		}
	}
}

func TestQuotients(t *testing.T) {
	for i, x := range []struct {
		a, b, want api.Ratio
		e          api.Errno
	}{
		{r(2, 3), r(3, 4), r(8, 9), api.OK}, {r(-2, 3), r(3, 4), r(-8, 9), api.OK}, {r(2, 3), r(-3, 4), r(-8, 9), api.OK}, {r(-2, 3), r(-3, 4), r(8, 9), api.OK}, {r(1, 2), r(1, 4), r(2, 1), api.OK}, {r(6, 1), r(4, 1), r(3, 2), api.OK},
		{r(0, 1), r(5, 3), r(0, 1), api.OK}, {r(0, 1), r(-1, most), r(0, 1), api.OK}, {r(1, 1), r(-most, 1), r(-1, most), api.OK}, {r(1, 1), r(-1, most), r(-most, 1), api.OK},
		{r(most, 1), r(most, 1), r(1, 1), api.OK}, {r(-most, 1), r(-most, 1), r(1, 1), api.OK}, {r(1, most), r(-1, most), r(-1, 1), api.OK}, {r(most, most-1), r(most, most-1), r(1, 1), api.OK},
		{r(most, 1), r(1, 2), r(0, 0), api.ErrLimit}, {r(most, 1), r(-1, 2), r(0, 0), api.ErrLimit}, {r(1, most), r(2, 1), r(0, 0), api.ErrLimit}, {r(1, most), r(-most, 1), r(0, 0), api.ErrLimit},
		{r(5, 1), r(0, 1), r(0, 0), api.ErrRange}, {r(0, 1), r(0, 1), r(0, 0), api.ErrRange}, {r(most, 1), r(0, 1), r(0, 0), api.ErrRange}, {r(-1, most), r(0, 1), r(0, 0), api.ErrRange},
	} {
		if got, e := ratio.Div(x.a, x.b); got != x.want || e != x.e {
			t.Errorf("%d: Div(%v, %v) = %v, %d, want %v, %d", i, x.a, x.b, got, e, x.want, x.e)
		}
	}
}

func TestProductsOfAllRatios(t *testing.T) {
	all := ratios()
	for _, a := range all {
		for _, b := range all {
			want, wantError := wantOf(new(big.Rat).Mul(exact(a), exact(b)))
			product, e := ratio.Mul(a, b)
			if product != want || e != wantError {
				t.Fatalf("Mul(%v, %v) = %v, %d, want %v, %d", a, b, product, e, want, wantError)
			}
			want, wantError = api.Ratio{}, api.ErrRange
			if b.Num != 0 {
				want, wantError = wantOf(new(big.Rat).Quo(exact(a), exact(b)))
			}
			if got, e := ratio.Div(a, b); got != want || e != wantError {
				t.Fatalf("Div(%v, %v) = %v, %d, want %v, %d", a, b, got, e, want, wantError)
			}
		}
	}
}

func TestDivUndoesMul(t *testing.T) {
	all := ratios()
	for _, a := range all {
		for _, b := range all {
			product, e := ratio.Mul(a, b)
			if e != api.OK || b.Num == 0 {
				continue
			}
			if got, e := ratio.Div(product, b); got != a || e != api.OK {
				t.Fatalf("Div of %v, which is %v * %v, by %v = %v, %d", product, a, b, b, got, e)
			}
		}
	}
}

// P2.2 and P2.3: ErrInvalid comes first, also where b is 0 or the limit is exceeded.
func TestArithmeticOfInvalidRatios(t *testing.T) {
	others := append([]api.Ratio{r(0, 1), r(1, 1), r(-1, 2), r(most, 1), r(-most, 1), r(1, most)}, invalidRatios()...)
	for name, f := range map[string]func(a, b api.Ratio) (api.Ratio, api.Errno){
		"Add": ratio.Add, "Sub": ratio.Sub, "Mul": ratio.Mul, "Div": ratio.Div,
	} {
		for _, x := range invalidRatios() {
			for _, other := range others {
				if got, e := f(x, other); got != (api.Ratio{}) || e != api.ErrInvalid {
					t.Errorf("%s(%v, %v) = %v, %d", name, x, other, got, e)
				}
				if got, e := f(other, x); got != (api.Ratio{}) || e != api.ErrInvalid {
					t.Errorf("%s(%v, %v) = %v, %d", name, other, x, got, e)
				}
			}
		}
	}
}

// P2.4

func TestLessOfAscendingRatios(t *testing.T) {
	ascending := []api.Ratio{
		r(-most, 1), r(1-most, 1), r(-2, 1), r(-most, most-1), r(-1, 1), r(1-most, most), r(2-most, most-1), r(-2, 3), r(-1, 2), r(-1, 3), r(-1, most-1), r(-1, most),
		r(0, 1), r(1, most), r(1, most-1), r(1, 3), r(1, 2), r(2, 3), r(most-2, most-1), r(most-1, most), r(1, 1), r(most, most-1), r(most-1, most-2), r(2, 1), r(most-1, 1), r(most, 1),
	}
	for i, a := range ascending {
		for k, b := range ascending {
			if got := ratio.Less(a, b); got != (i < k) {
				t.Errorf("Less(%v, %v) = %t", a, b, got)
			}
		}
	}
}

func TestLessOfAllRatios(t *testing.T) {
	all := ratios()
	for _, a := range all {
		for _, b := range all {
			if got, want := ratio.Less(a, b), exact(a).Cmp(exact(b)) < 0; got != want {
				t.Fatalf("Less(%v, %v) = %t", a, b, got)
			}
		}
	}
}

func TestLessOfInvalidRatios(t *testing.T) {
	others := append([]api.Ratio{r(-most, 1), r(-1, 1), r(0, 1), r(1, 3), r(most, 1)}, invalidRatios()...)
	for _, x := range invalidRatios() {
		for _, other := range others {
			if ratio.Less(x, other) || ratio.Less(other, x) {
				t.Errorf("Less of %v and %v is true", x, other)
			}
		}
	}
}

// P2.5

func TestTexts(t *testing.T) {
	for text, x := range map[string]api.Ratio{
		"0": r(0, 1), "1": r(1, 1), "-1": r(-1, 1), "7": r(7, 1), "-70": r(-70, 1), "1/2": r(1, 2), "-3/4": r(-3, 4), "10/7": r(10, 7), "-100/99": r(-100, 99),
		"4611686018427387904": r(most, 1), "-4611686018427387904": r(-most, 1), "1/4611686018427387904": r(1, most), "-1/4611686018427387904": r(-1, most),
		"4611686018427387904/4611686018427387903": r(most, most-1), "-4611686018427387903/4611686018427387904": r(1-most, most),
	} {
		if got := ratio.Text(x); got != text {
			t.Errorf("Text(%v) = %q, want %q", x, got, text)
		}
		if got, e := ratio.Parse(text); got != x || e != api.OK {
			t.Errorf("Parse(%q) = %v, %d, want %v", text, got, e, x)
		}
	}
}

func TestTextsOfAllRatios(t *testing.T) {
	for _, x := range ratios() {
		if got, want := ratio.Text(x), wantText(x); got != want {
			t.Errorf("Text(%v) = %q, want %q", x, got, want)
		}
		if got, e := ratio.Parse(wantText(x)); got != x || e != api.OK {
			t.Errorf("Parse(%q) = %v, %d", wantText(x), got, e)
		}
	}
}

func TestTextsOfInvalidRatios(t *testing.T) {
	for _, x := range invalidRatios() {
		if got := ratio.Text(x); got != "" {
			t.Errorf("Text(%v) = %q", x, got)
		}
		if got, e := ratio.Parse(wantText(x)); got != (api.Ratio{}) || e != api.ErrText {
			t.Errorf("Parse(%q) = %v, %d", wantText(x), got, e)
		}
	}
}

func TestParseOfOtherTexts(t *testing.T) {
	for _, text := range []string{
		"", " ", "-", "+", "/", "//", "x", "-x", "0x1", "1e3", "1.5", "1_000", "1,5", "½", "٣", "\x00", "1\x00", "\xff", "\n1",
		"1/1", "-1/1", "0/1", "0/2", "0/0", "1/0", "-1/0", "2/2", "2/4", "-2/4", "4/2", "6/9",
		"-0", "+0", "+1", "--1", "-+1", "00", "01", "-01", "007", "1/02", "01/2", "1/+2", "+1/2", "-0/1", "1/-2", "-1/-2",
		"1/", "/2", "-/2", "1//2", "1/2/", "/1/2", "1/2/3", "1/x", "x/2", " 1", "1 ", "1 /2", "1/ 2", " 1/2", "1/2 ", "1/2\n", "1\t", "1\\2", "1:2",
		"4611686018427387905", "-4611686018427387905", "1/4611686018427387905", "9223372036854775807", "-9223372036854775808", "1/9223372036854775807",
		"9223372036854775808", "18446744073709551616", "18446744073709551617", "-18446744073709551617", "1/18446744073709551618", "99999999999999999999/99999999999999999998",
		strings.Repeat("9", 100000), "1/" + strings.Repeat("9", 100000), strings.Repeat("0", 100000) + "1", strings.Repeat("/", 1000),
	} {
		if got, e := ratio.Parse(text); got != (api.Ratio{}) || e != api.ErrText {
			t.Errorf("Parse(%.40q) = %v, %d", text, got, e)
		}
	}
}

// TestParseOfShortTexts goes through all texts of up to five bytes that could be, or spoil, that of a ratio.
func TestParseOfShortTexts(t *testing.T) {
	valid := map[string]api.Ratio{}
	for num := -9999; num <= 99999; num++ {
		for den := 1; len(wantText(r(num, den))) <= 5; den++ {
			if x := r(num, den); wantValid(x) {
				valid[wantText(x)] = x
			}
		}
	}
	texts := []string{""}
	for length := 0; length <= 5; length++ {
		var longer []string
		for _, text := range texts {
			want, found := valid[text]
			wantError := api.OK
			if !found {
				wantError = api.ErrText
			}
			if got, e := ratio.Parse(text); got != want || e != wantError {
				t.Fatalf("Parse(%q) = %v, %d, want %v, %d", text, got, e, want, wantError)
			}
			for _, c := range "0126/-+ " {
				longer = append(longer, text+string(c))
			}
		}
		texts = longer
	}
}

// The consequences of P2.2 to P2.4.
func TestSmallRatios(t *testing.T) {
	var all []api.Ratio
	for den := 1; den <= 12; den++ {
		for num := -14; num <= 14; num++ {
			x, e := ratio.New(num, den)
			if e != api.OK || !ratio.Valid(x) || x.Num*den != num*x.Den {
				t.Fatalf("New(%d, %d) = %v, %d", num, den, x, e)
			}
			if !slices.Contains(all, x) {
				all = append(all, x)
			}
		}
	}
	for _, a := range all {
		for _, b := range all {
			sum, e := ratio.Add(a, b)
			if back, f := ratio.Sub(sum, b); e != api.OK || f != api.OK || back != a {
				t.Fatalf("Sub of %v, which is %v + %v, and %v = %v, %d, %d", sum, a, b, b, back, e, f)
			}
			if less := ratio.Less(a, b); less != (a.Num*b.Den < b.Num*a.Den) || less && ratio.Less(b, a) {
				t.Fatalf("Less(%v, %v) = %t", a, b, less)
			}
		}
	}
}
