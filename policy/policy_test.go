package policy

import (
	"math"
	"math/big"
	"math/rand"
	"testing"

	"foliot/api"
)

// last is the last tick that may be.
const last = 1<<62 - 1

// wantWait: how long one waits behind so many tries; below nought: it isn't tried again.
func wantWait(t *testing.T, p Policy, tries int, want int64) {
	t.Helper()
	got, ok := p.Wait(tries)
	if ok != (want >= 0) || got != max(want, 0) {
		t.Errorf("%+v.Wait(%d): %d, %v, want %d", p, tries, got, ok, want)
	}
}

// The chapter's example.
func TestExample(t *testing.T) {
	p := Policy{Tries: 3, First: 2, Factor: 3}
	wantWait(t, p, 1, 2)
	wantWait(t, p, 2, 6)
	wantWait(t, p, 3, -1)
}

func TestLimits(t *testing.T) {
	if MaxTries != 15 || MaxFirst != 63 || MaxFactor != 7 || MaxDelay != 511 || MaxTime != 511 {
		t.Errorf("%d, %d, %d, %d, %d", MaxTries, MaxFirst, MaxFactor, MaxDelay, MaxTime)
	}
}

// variants: a policy with one number in the place of each of its own.
func variants(p Policy, n int64) [5]Policy {
	list := [5]Policy{p, p, p, p, p}
	list[0].Tries = int(n)
	list[1].First = n
	list[2].Factor = n
	list[3].Most = n
	list[4].Limit = n
	return list
}

// bounds of each of a policy's numbers.
var bounds = [5][2]int64{{0, 15}, {0, 63}, {1, 7}, {0, 511}, {0, 511}}

var rawNumbers = []int64{
	math.MinInt64, math.MinInt64 + 1, -1 << 32, -512, -2, -1, 0, 1, 2, 6, 7, 8, 14, 15, 16, 62, 63, 64, 510, 511, 512, 1 << 31, 1 << 32,
	last, last + 1, math.MaxInt64 - 1, math.MaxInt64,
}

// P22.1 and P22.2: each number at and beyond its ends; Number tells the same error, and nothing beside it.
func TestCheck(t *testing.T) {
	for _, p := range []Policy{{Factor: 1}, {15, 63, 7, 511, 511}, {3, 2, 3, 9, 4}} {
		for _, n := range rawNumbers {
			for i, x := range variants(p, n) {
				want := api.OK
				if n < bounds[i][0] || n > bounds[i][1] {
					want = api.ErrRange
				}
				if got := x.Check(); got != want {
					t.Errorf("%+v.Check(): %v, want %v", x, got, want)
				}
				if got, e := x.Number(); e != want || want != api.OK && got != 0 {
					t.Errorf("%+v.Number(): %d, %v, want %v", x, got, e, want)
				}
			}
		}
	}
	if e := (Policy{}).Check(); e != api.ErrRange {
		t.Errorf("the zero one: %v", e)
	}
}

// number: the words of P22.2.
func number(p Policy) int64 {
	t := int64(p.Tries) - 1
	if p.Tries == 0 {
		t = 15
	}
	return t + 16*(p.First+64*(p.Factor-1+8*(p.Most+512*p.Limit)))
}

// wantNumber: a policy has a number, and is that number's.
func wantNumber(t *testing.T, p Policy, want int64) {
	t.Helper()
	if got, e := p.Number(); got != want || e != api.OK {
		t.Errorf("%+v.Number(): %d, %v, want %d", p, got, e, want)
	}
	if got := Of(want); got != p {
		t.Errorf("Of(%d): %+v, want %+v", want, got, p)
	}
}

// P22.2: numbers by hand.
func TestNumberByHand(t *testing.T) {
	for _, x := range []struct {
		p    Policy
		want int64
	}{
		{Policy{Tries: 1, Factor: 1}, 0},
		{Policy{Tries: 2, Factor: 1}, 1},
		{Policy{Tries: 15, Factor: 1}, 14},
		{Policy{Factor: 1}, 15},
		{Policy{Tries: 1, First: 1, Factor: 1}, 16},
		{Policy{Tries: 1, First: 63, Factor: 1}, 16 * 63},
		{Policy{Tries: 1, Factor: 2}, 1 << 10},
		{Policy{Tries: 1, Factor: 7}, 6 << 10},
		{Policy{Tries: 1, Factor: 1, Most: 1}, 1 << 13},
		{Policy{Tries: 1, Factor: 1, Limit: 1}, 1 << 22},
		{Policy{Tries: 3, First: 2, Factor: 3}, 2 + 16*2 + 1024*2},
		{Policy{First: 63, Factor: 7, Most: 511, Limit: 511}, 1<<31 - 1 - 1<<10},
	} {
		wantNumber(t, x.p, x.want)
	}
}

// P22.2: each number of each part, beside the ends of the others; and policies by chance.
func TestNumber(t *testing.T) {
	for _, p := range []Policy{{Tries: 1, Factor: 1}, {Factor: 7, First: 63, Most: 511, Limit: 511}, {Tries: 9, First: 5, Factor: 4, Most: 300, Limit: 77}} {
		for n := range int64(512) {
			for i, x := range variants(p, n) {
				if n >= bounds[i][0] && n <= bounds[i][1] {
					wantNumber(t, x, number(x))
				}
			}
		}
	}
	r := rand.New(rand.NewSource(22))
	for range 20000 {
		p := chance(r)
		wantNumber(t, p, number(p))
	}
}

// chance: a policy that may be.
func chance(r *rand.Rand) Policy {
	p := Policy{r.Intn(16), r.Int63n(64), 1 + r.Int63n(7), r.Int63n(512), r.Int63n(512)}
	if r.Intn(3) == 0 {
		p.Most = 0
	}
	if r.Intn(2) == 0 {
		p.Tries = 0
	}
	return p
}

// P22.2: all numbers are some policy's; where the factor's part is 7, that of 6.
func TestOf(t *testing.T) {
	r := rand.New(rand.NewSource(23))
	sevens := 0
	for i := range int64(40000) {
		n := r.Int63n(1 << 31)
		if i < 9000 {
			n = i
		}
		p := Of(n)
		if e := p.Check(); e != api.OK {
			t.Fatalf("Of(%d): %+v, %v", n, p, e)
		}
		want := n
		if n>>10&7 == 7 {
			want -= 1 << 10
			sevens++
		}
		if got := number(p); got != want {
			t.Fatalf("Of(%d): %+v, whose number is %d", n, p, got)
		}
	}
	if sevens < 1000 {
		t.Errorf("only %d of the factor's part 7", sevens)
	}
	if p := Of(1<<31 - 1); p != (Policy{First: 63, Factor: 7, Most: 511, Limit: 511}) {
		t.Errorf("Of the last one: %+v", p)
	}
}

// P22.2: what is no policy's number is one try.
func TestOfMore(t *testing.T) {
	for _, n := range []int64{math.MinInt64, -1 << 31, -1 << 10, -16, -1, 1 << 31, 1<<31 + 1, 1<<31 + 35, 1 << 32, math.MaxInt64} {
		if p := Of(n); p != (Policy{Tries: 1, Factor: 1}) {
			t.Errorf("Of(%d): %+v", n, p)
		}
	}
}

// told: the words of P22.3, in numbers without an end; -1: it isn't tried again.
func told(p Policy, tries int) int64 {
	if tries < 1 || p.Tries != 0 && p.Tries <= tries {
		return -1
	}
	wait, most := big.NewInt(p.First), big.NewInt(p.Most)
	for range tries - 1 {
		sevenfold := new(big.Int).Mul(wait, big.NewInt(7))
		if p.Most != 0 && wait.Cmp(most) >= 0 || sevenfold.Cmp(big.NewInt(last)) >= 0 {
			continue
		}
		wait.Mul(wait, big.NewInt(p.Factor))
	}
	if p.Most != 0 && wait.Cmp(most) > 0 {
		wait = most
	}
	return wait.Int64()
}

// P22.3: by hand.
func TestWaitByHand(t *testing.T) {
	for _, x := range []struct {
		p     Policy
		tries int
		want  int64
	}{
		{Policy{Factor: 1}, 1, 0},
		{Policy{Factor: 7}, 9, 0},
		{Policy{First: 5, Factor: 1}, 9, 5},
		{Policy{First: 5, Factor: 2}, 4, 40},
		{Policy{First: 5, Factor: 2, Most: 39}, 4, 39},
		{Policy{First: 5, Factor: 2, Most: 40}, 4, 40},
		{Policy{First: 5, Factor: 2, Most: 40}, 40, 40},
		{Policy{First: 5, Factor: 2, Most: 41}, 4, 40},
		{Policy{First: 5, Factor: 2, Most: 41}, 5, 41},
		{Policy{First: 50, Factor: 2, Most: 3}, 1, 3},
		{Policy{First: 50, Factor: 2, Most: 3}, 2, 3},
		{Policy{Factor: 2, Most: 3}, 5, 0},
		{Policy{Tries: 1, First: 5, Factor: 2}, 1, -1},
		{Policy{Tries: 2, First: 5, Factor: 2}, 1, 5},
		{Policy{Tries: 2, First: 5, Factor: 2}, 2, -1},
		{Policy{Tries: 2, First: 5, Factor: 2}, 3, -1},
		{Policy{Tries: 15, First: 1, Factor: 2}, 14, 1 << 13},
		{Policy{Tries: 15, First: 1, Factor: 2}, 15, -1},
		{Policy{First: 1, Factor: 2}, 15, 1 << 14},
		{Policy{First: 1, Factor: 2}, 60, 1 << 59},
		{Policy{First: 1, Factor: 2}, 61, 1 << 60}, // 1<<59 is below the last tick / 7
		{Policy{First: 1, Factor: 2}, 62, 1 << 60},
		{Policy{First: 3, Factor: 2}, 59, 3 << 58},
		{Policy{First: 3, Factor: 2}, 60, 3 << 58},
		{Policy{First: 1, Factor: 4}, 30, 1 << 58},
		{Policy{First: 1, Factor: 4}, 31, 1 << 60},
		{Policy{First: 1, Factor: 4}, 32, 1 << 60},
	} {
		wantWait(t, x.p, x.tries, x.want)
	}
}

// P22.3: policies by chance.
func TestWait(t *testing.T) {
	r := rand.New(rand.NewSource(24))
	for range 3000 {
		p := chance(r)
		for tries := -2; tries < 20; tries++ {
			wantWait(t, p, tries, told(p, tries))
		}
		p.Tries = 0
		for _, tries := range []int{20 + r.Intn(45), 65, 100 + r.Intn(900)} {
			wantWait(t, p, tries, told(p, tries))
		}
	}
}

// P1 and P22.3: however many tries there were, it ends.
func TestWaitOfMany(t *testing.T) {
	for first := range int64(64) {
		for factor := int64(1); factor <= 7; factor++ {
			for _, most := range []int64{0, 1, 511} {
				p := Policy{First: first, Factor: factor, Most: most}
				want := told(p, 100) // where it doesn't grow any more
				for _, tries := range []int{64, 1 << 20, 1 << 40, math.MaxInt - 1, math.MaxInt} {
					wantWait(t, p, tries, want)
				}
				for _, tries := range []int{math.MinInt, math.MinInt + 1, -1 << 40, -1, 0} {
					wantWait(t, p, tries, -1)
				}
				p.Tries = 15
				wantWait(t, p, math.MaxInt, -1)
			}
		}
	}
}

// P22.4: by hand.
func TestAgainByHand(t *testing.T) {
	p := Policy{Tries: 3, First: 2, Factor: 3}
	for _, x := range []struct {
		tries     int
		now, want int64
	}{
		{1, 0, 2}, {1, 10, 12}, {2, 10, 16}, {3, 10, -1}, {0, 10, -1}, {-1, 10, -1}, {4, 10, -1},
		{1, -1, -1}, {1, math.MinInt64, -1}, {3, -1, -1},
		{1, last - 3, last - 1}, {1, last - 2, last}, {1, last - 1, last}, {1, last, last},
		{2, last - 7, last - 1}, {2, last - 6, last}, {2, last - 5, last}, {3, last, -1},
	} {
		got, ok := p.Again(x.tries, x.now)
		if ok != (x.want >= 0) || got != max(x.want, 0) {
			t.Errorf("Again(%d, %d): %d, %v, want %d", x.tries, x.now, got, ok, x.want)
		}
	}
	for _, now := range []int64{0, 1, last - 1<<60, last - 1<<60 + 1, last} {
		want := min(now+1<<60, last)
		if got, ok := (Policy{First: 1, Factor: 2}).Again(900, now); !ok || got != want {
			t.Errorf("Again(900, %d): %d, %v, want %d", now, got, ok, want)
		}
	}
}

// P22.4: policies by chance.
func TestAgain(t *testing.T) {
	r := rand.New(rand.NewSource(25))
	for range 20000 {
		p, tries, now := chance(r), r.Intn(80)-2, r.Int63n(1000)-100
		if r.Intn(3) == 0 {
			now = last - r.Int63n(1<<uint(r.Intn(62)))
		}
		want, tried := told(p, tries), true
		if now < 0 || want < 0 {
			want, tried = 0, false
		} else {
			both := new(big.Int).Add(big.NewInt(now), big.NewInt(want))
			if both.Cmp(big.NewInt(last)) > 0 {
				both.SetInt64(last)
			}
			want = both.Int64()
		}
		if got, ok := p.Again(tries, now); got != want || ok != tried {
			t.Fatalf("%+v.Again(%d, %d): %d, %v, want %d, %v", p, tries, now, got, ok, want, tried)
		}
	}
}

// P22.4: Due, whatever else the policy says.
func TestDue(t *testing.T) {
	for _, x := range []struct{ limit, since, want int64 }{
		{0, 0, -1}, {0, 5, -1}, {0, last, -1},
		{1, 0, 1}, {1, 5, 6}, {1, last - 2, last - 1}, {1, last - 1, last}, {1, last, -1},
		{511, 0, 511}, {511, 9, 520}, {511, last - 512, last - 1}, {511, last - 511, last}, {511, last - 510, -1}, {511, last, -1},
	} {
		for _, p := range []Policy{{1, 0, 1, 0, x.limit}, {0, 63, 7, 511, x.limit}, {3, 2, 3, 1, x.limit}} {
			got, ok := p.Due(x.since)
			if ok != (x.want >= 0) || got != max(x.want, 0) {
				t.Errorf("%+v.Due(%d): %d, %v, want %d", p, x.since, got, ok, x.want)
			}
		}
	}
}

// P1: whatever a policy is, each call ends, and none panics.
func TestRaw(t *testing.T) {
	r := rand.New(rand.NewSource(26))
	raw := func() int64 {
		if r.Intn(4) == 0 {
			return r.Int63() - r.Int63()
		}
		return rawNumbers[r.Intn(len(rawNumbers))]
	}
	for range 20000 {
		p := Policy{int(raw()), raw(), raw(), raw(), raw()}
		p.Wait(int(raw()))
		p.Wait(math.MaxInt)
		p.Again(int(raw()), raw())
		p.Due(raw())
		Of(raw())
		if n, e := p.Number(); e != p.Check() || e != api.OK && n != 0 {
			t.Fatalf("%+v.Number(): %d, %v", p, n, e)
		}
	}
}
