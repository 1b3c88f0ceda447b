package image

import (
	"crypto/sha256"
	"strings"
	"sync"
	"testing"

	"foliot/api"
)

// sumOf: the sum of a program of that name, whose image has these bytes.
func sumOf(name string, b []byte) api.Sum {
	return sha256.Sum256([]byte(name + "\x00" + string(b)))
}

// P11.4.
func TestNew(t *testing.T) {
	for _, x := range []struct {
		name string
		p    api.Image
		want api.Errno
	}{
		{"pay", rich(api.Instr{}), api.OK},
		{"", rich(api.Instr{}), api.OK},
		{"\x00\xff\n", rich(api.Instr{}), api.OK},
		{strings.Repeat("n", 64), full(), api.OK},
		{strings.Repeat("n", 65), full(), api.ErrLong},
		{strings.Repeat("n", 65), api.Image{}, api.ErrLong},
		{strings.Repeat("n", 64), api.Image{}, api.ErrShort},
		{"pay", rich(api.Instr{Op: 33}), api.ErrOp},
		{"pay", rich(api.Instr{Op: Push, A: 2}), api.ErrRange},
	} {
		got, err := New(x.name, x.p)
		if err != x.want || (err != api.OK) != (got == nil) {
			t.Errorf("New of %q: %v, want %v", x.name, err, x.want)
			continue
		}
		if err == api.OK && (got.Name() != x.name || !alike(got.Image(), x.p)) {
			t.Errorf("New of %q: %q, %+v", x.name, got.Name(), got.Image())
		}
	}
}

// P11.4: the sum and the bytes, in whatever order they are asked.
func TestSum(t *testing.T) {
	five := api.Image{Code: []api.Instr{{Op: Push}, {Op: Return}}, Consts: []api.Value{num(5)}}
	for _, name := range []string{"", "a", "pay", strings.Repeat("\xff", 64)} {
		for _, p := range []api.Image{five, full(), littered(), rich(api.Instr{Op: Jump, A: 3})} {
			b, _ := Encode(p)
			one, _ := New(name, p)
			two, _ := New(name, p)
			for range 2 {
				if one.Sum() != sumOf(name, b) || one.Bytes() != len(b) {
					t.Errorf("Sum of %q: %x, %d bytes", name, one.Sum(), one.Bytes())
				}
				if two.Bytes() != len(b) || two.Sum() != one.Sum() {
					t.Errorf("Bytes of %q: %d", name, two.Bytes())
				}
			}
		}
	}
	if p, _ := New("", five); p.Bytes() != 9 {
		t.Errorf("the document's example has %d bytes", p.Bytes())
	}
}

// P11.4: where a name ends counts.
func TestSumOfNames(t *testing.T) {
	seen := map[api.Sum]string{}
	for _, name := range []string{"", "\x00", "a", "a\x00", "\x00a", "b"} {
		p, _ := New(name, rich(api.Instr{}))
		if other, ok := seen[p.Sum()]; ok {
			t.Errorf("%q and %q have one sum", name, other)
		}
		seen[p.Sum()] = name
	}
}

// P11.4: both are reckoned once.
func TestReckonedOnce(t *testing.T) {
	p, _ := New("pay", full())
	want := p.Sum()
	if n := testing.AllocsPerRun(100, func() {
		if p.Sum() != want || p.Bytes() == 0 {
			t.Error("Sum")
		}
	}); n != 0 {
		t.Errorf("Sum and Bytes reckon anew: %v allocations", n)
	}
}

// P11.4: a program may be asked from several sides at one time.
func TestSumAtOneTime(t *testing.T) {
	p, _ := New("pay", full())
	b, _ := Encode(full())
	var sums [8]api.Sum
	var sizes [8]int
	var group sync.WaitGroup
	for i := range sums {
		group.Go(func() { sums[i], sizes[i] = p.Sum(), p.Bytes() })
	}
	group.Wait()
	for i := range sums {
		if sums[i] != sumOf("pay", b) || sizes[i] != len(b) {
			t.Errorf("Sum: %x, %d bytes", sums[i], sizes[i])
		}
	}
}
