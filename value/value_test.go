package value

import (
	"math"
	"reflect"
	"slices"
	"strings"
	"testing"

	"foliot/api"
	"foliot/wire"
)

// list: a list as it is, without the package's own calls.
func list(l ...api.Value) api.Value { return api.Value{Kind: api.List, List: l} }

func num(n int64) api.Value { return api.Value{Kind: api.Int, N: n} }

func text(s string) api.Value { return api.Value{Kind: api.Text, S: s} }

// nested: v in n lists.
func nested(v api.Value, n int) api.Value {
	for range n {
		v = list(v)
	}
	return v
}

// nils: a list of n times nil.
func nils(n int) api.Value { return list(make([]api.Value, n)...) }

// full: a value of n parts, from 196 to 261, of less than MaxBytes bytes.
func full(n int) api.Value { return list(nils(64), nils(64), nils(64), nils(n-197)) }

// wide: a value of n bytes, from 400 to 515.
func wide(n int) api.Value {
	return list(text(strings.Repeat("a", 256)), text(strings.Repeat("b", n-264)))
}

// ring: a list that stands in itself, n times.
func ring(n int) api.Value {
	l := make([]api.Value, n)
	for i := range l {
		l[i] = list(l...)
	}
	return list(l...)
}

// littered: v, with something in each field that its kind doesn't have.
func littered(v api.Value) api.Value {
	if v.Kind != api.Int {
		v.N = -3
	}
	if v.Kind != api.Text {
		v.S = "litter"
	}
	if v.Kind != api.List {
		v.List = []api.Value{num(1), ring(1)}
		return v
	}
	l := make([]api.Value, len(v.List))
	for i := range l {
		l[i] = littered(v.List[i])
	}
	v.List = l
	return v
}

// ordered is values that may be, each ahead of the one behind it.
func ordered() []api.Value {
	return []api.Value{
		{},
		num(math.MinInt64), num(math.MinInt64 + 1), num(-300), num(-1), num(0), num(1), num(255), num(256), num(math.MaxInt64),
		text(""), text("\x00"), text("\x00\x00"), text("\""), text("A"), text("\\"), text("a"), text("aa"), text("ab"), text("b"), text("\x7f"), text("\x80"), text("é"), text("\xff"), text("\xff\x00"),
		list(), nils(1), nils(2), nils(64), list(api.Value{}, num(5)), list(num(-1)), list(num(0)), list(num(0), num(0)), list(num(5), text("a")), list(num(5), text("b")), list(num(6)),
		list(text("")), list(text("z"), num(9)), list(text("za")), list(list()), list(list(), list()), list(nils(1)), list(list(num(1)), num(0)), list(list(num(2))), nested(num(1), 7), nested(list(), 7),
	}
}

// P3.2.
func TestMake(t *testing.T) {
	for _, x := range []struct{ got, want api.Value }{
		{Of(0), num(0)},
		{Of(math.MinInt64), num(math.MinInt64)},
		{Of(math.MaxInt64), num(math.MaxInt64)},
		{Text(""), text("")},
		{Text("a\xff"), text("a\xff")},
		{Text(strings.Repeat("x", 300)), text(strings.Repeat("x", 300))},
		{Bool(true), num(1)},
		{Bool(false), num(0)},
		{List(num(5), text("a"), list(num(1))), list(num(5), text("a"), list(num(1)))},
		{List(littered(list(num(5), text("a"), api.Value{}))), list(list(num(5), text("a"), api.Value{}))},
	} {
		if !reflect.DeepEqual(x.got, x.want) {
			t.Errorf("%+v, want %+v", x.got, x.want)
		}
	}
	if v := List(); v.Kind != api.List || len(v.List) != 0 {
		t.Errorf("List of nothing: %+v", v)
	}
}

// P3.2.
func TestTrue(t *testing.T) {
	falses := []api.Value{{}, num(0), text(""), list(), {Kind: api.List, List: []api.Value{}}}
	for _, v := range ordered() {
		want := !slices.ContainsFunc(falses, func(f api.Value) bool { return reflect.DeepEqual(f, v) })
		if True(v) != want || True(littered(v)) != want {
			t.Errorf("True(%+v) is not %v", v, want)
		}
	}
	for _, v := range falses {
		if True(v) || True(littered(v)) {
			t.Errorf("True(%+v)", v)
		}
	}
	for _, kind := range []int{-1, 4, math.MinInt, math.MaxInt} {
		if !True(api.Value{Kind: kind}) {
			t.Errorf("True of the kind %d is false", kind)
		}
	}
	for _, v := range []api.Value{text("\x00"), text("0"), nils(1), list(num(0)), num(-1)} {
		if !True(v) {
			t.Errorf("True(%+v) is false", v)
		}
	}
}

// P3.1, where a value may be: up to each limit.
func TestCheckMay(t *testing.T) {
	may := append(ordered(), text(strings.Repeat("x", 256)), nils(64), full(256), wide(512), nested(num(0), 8), nested(list(), 7))
	for _, v := range may {
		if e := Check(v); e != api.OK {
			t.Errorf("Check(%.60q): %v", Print(v), e)
		}
		if e := Check(littered(v)); e != api.OK {
			t.Errorf("Check(%.60q) with fields that don't count: %v", Print(v), e)
		}
	}
	if full(256).List[3].List == nil || Parts(full(256)) != 256 {
		t.Error("full(256) isn't 256 parts")
	}
}

// P3.1, where it may not, and which error is first.
func TestCheckMayNot(t *testing.T) {
	long, bad := text(strings.Repeat("x", 257)), api.Value{Kind: 4}
	for name, x := range map[string]struct {
		v    api.Value
		want api.Errno
	}{
		"kind 4":                            {bad, api.ErrKind},
		"kind -1":                           {api.Value{Kind: -1}, api.ErrKind},
		"kind 256":                          {api.Value{Kind: 256}, api.ErrKind},
		"kind 259":                          {api.Value{Kind: 259}, api.ErrKind},
		"kind in a list":                    {list(num(1), list(bad)), api.ErrKind},
		"long text":                         {long, api.ErrLong},
		"long text in a list":               {list(long), api.ErrLong},
		"65 values":                         {nils(65), api.ErrLong},
		"65 values in a list":               {list(nils(65)), api.ErrLong},
		"257 parts":                         {full(257), api.ErrLong},
		"513 bytes":                         {wide(513), api.ErrLong},
		"deep list":                         {nested(list(), 8), api.ErrDeep},
		"deep list with something":          {nested(num(1), 9), api.ErrDeep},
		"very deep":                         {nested(num(1), 100000), api.ErrDeep},
		"deep, ahead of too many":           {nested(nils(65), 8), api.ErrDeep},
		"too many, ahead of deep in it":     {nested(list(append(nils(64).List, nested(list(), 3))...), 6), api.ErrLong},
		"too many, ahead of a kind in it":   {list(append([]api.Value{bad}, nils(64).List...)...), api.ErrLong},
		"kind, ahead of a long text":        {list(bad, long), api.ErrKind},
		"long text, ahead of a kind":        {list(long, bad), api.ErrLong},
		"kind, ahead of deep":               {list(bad, nested(list(), 8)), api.ErrKind},
		"deep, ahead of a kind":             {list(nested(list(), 8), bad), api.ErrDeep},
		"kind far in, ahead of deep":        {list(list(list(bad)), nested(list(), 8)), api.ErrKind},
		"the 257th, ahead of its kind":      {list(append(full(256).List, bad)...), api.ErrLong},
		"the 257th, ahead of it being deep": {list(append(full(249).List, nested(list(), 8))...), api.ErrLong},
		"the 256th's kind":                  {list(append(full(255).List, bad)...), api.ErrKind},
		"the 257th, ahead of a kind":        {list(append(full(256).List, num(0), bad)...), api.ErrLong},
		"kind, ahead of 513 bytes":          {list(append(wide(513).List, bad)...), api.ErrKind},
		"deep, ahead of 513 bytes":          {list(append(wide(513).List, nested(list(), 8))...), api.ErrDeep},
		"in itself":                         {ring(1), api.ErrDeep},
		"in itself many times":              {ring(64), api.ErrDeep},
		"in itself too many times":          {ring(65), api.ErrLong},
	} {
		if e := Check(x.v); e != x.want {
			t.Errorf("Check, %s: %v, want %v", name, e, x.want)
		}
		b, e := Encode(x.v)
		if e != x.want || len(b) != 0 {
			t.Errorf("Encode, %s: %x, %v, want %v", name, b, e, x.want)
		}
	}
}

// P3.2.
func TestParts(t *testing.T) {
	for _, x := range []struct {
		v    api.Value
		want int
	}{
		{api.Value{}, 1}, {num(7), 1}, {text("abc"), 1}, {list(), 1}, {nils(64), 65},
		{list(num(5), text("a")), 3}, {nested(num(0), 8), 9}, {full(256), 256}, {list(list(), list(num(1), num(2)), num(3)), 6},
	} {
		if n := Parts(x.v); n != x.want {
			t.Errorf("Parts(%s) = %d, want %d", Print(x.v), n, x.want)
		}
		if n := Parts(littered(x.v)); n != x.want {
			t.Errorf("Parts(%s) with fields that don't count = %d, want %d", Print(x.v), n, x.want)
		}
	}
}

// P3.2: also of values that may not be.
func TestClone(t *testing.T) {
	odd := []api.Value{{Kind: 4}, {Kind: -1}, text(strings.Repeat("x", 5000)), nils(300), nested(num(1), 20), list(api.Value{Kind: 9}, nils(2))}
	for _, v := range append(ordered(), odd...) {
		if got := Clone(v); !reflect.DeepEqual(got, v) {
			t.Errorf("Clone(%+v) = %+v", v, got)
		}
		if got := Clone(littered(v)); !reflect.DeepEqual(got, v) {
			t.Errorf("Clone(%+v) with fields that don't count = %+v", v, got)
		}
	}
	deep := nested(num(1), mostNested)
	depth := 0
	for v := Clone(deep); v.Kind == api.List && len(v.List) == 1; v = v.List[0] {
		depth++
	}
	if depth != mostNested {
		t.Errorf("Clone of %d lists in one another has %d", mostNested, depth)
	}
}

// scribble changes all memory that v has, its lists' spare room too.
func scribble(v api.Value) {
	all := v.List[:cap(v.List)]
	for i := range all {
		scribble(all[i])
		all[i] = num(99)
	}
}

// P2: what Clone, List, Decode and Parse answer shares no memory with anything.
func TestMemory(t *testing.T) {
	was := list(num(5), list(text("a"), list(num(1))), list())
	b, _ := Encode(was)
	makers := map[string]func(v api.Value) api.Value{
		"Clone":  Clone,
		"List":   func(v api.Value) api.Value { return List(v.List...) },
		"Decode": func(api.Value) api.Value { v, _ := Decode(b); return v },
		"Parse":  func(v api.Value) api.Value { v, _ = Parse(Print(v)); return v },
	}
	for name, f := range makers {
		in := Clone(was)
		one, two := f(in), f(in)
		if !Same(one, was) || !Same(two, was) {
			t.Fatalf("%s: %s", name, Print(one))
		}
		scribble(one)
		if !Same(two, was) || !Same(in, was) {
			t.Errorf("%s shares memory", name)
		}
		scribble(in)
		if !Same(two, was) {
			t.Errorf("%s kept what was handed in", name)
		}
		scribble(two.List[1])
		if len(two.List) != 3 || !Same(two.List[0], num(5)) || !Same(two.List[2], list()) {
			t.Errorf("%s: two lists of one answer share memory", name)
		}
	}
	spare := []api.Value{num(1), num(2), num(3)}
	List(spare[:1]...)
	if !reflect.DeepEqual(spare, []api.Value{num(1), num(2), num(3)}) {
		t.Error("List changed what was handed in")
	}
}

func sign(n int) int { return min(1, max(-1, n)) }

// P3.2: the order of values, each held against each.
func TestCompare(t *testing.T) {
	all := ordered()
	for i, a := range all {
		for j, b := range all {
			if got := sign(Compare(a, b)); got != sign(i-j) {
				t.Errorf("Compare(%s, %s) = %d", Print(a), Print(b), got)
			}
			if got := sign(Compare(littered(a), Clone(b))); got != sign(i-j) {
				t.Errorf("Compare(%s, %s), with fields that don't count, = %d", Print(a), Print(b), got)
			}
			if Same(a, b) != (i == j) || Same(a, littered(b)) != (i == j) {
				t.Errorf("Same(%s, %s) is %v", Print(a), Print(b), i != j)
			}
		}
	}
	if !Same(list(), api.Value{Kind: api.List, List: []api.Value{}}) {
		t.Error("two empty lists aren't the same")
	}
}

// P1, P2: each call ends at each value, changes none, and answers the same again.
func TestAnyValue(t *testing.T) {
	odd := append(ordered(), api.Value{Kind: 4}, api.Value{Kind: -1}, api.Value{Kind: math.MinInt}, list(api.Value{Kind: 1 << 40}),
		text(strings.Repeat("x", 1<<16)), nils(5000), nested(num(1), 300), nested(list(), mostNested), nested(list(), mostNested+5), ring(1), ring(2), ring(70), list(num(1), ring(3)))
	for i, v := range odd {
		was := v
		if !endless(v) {
			was = Clone(v)
		}
		var w, again wire.Writer
		Write(&w, v)
		Write(&again, v)
		if Print(v) != Print(v) || Parts(v) != Parts(v) || True(v) != True(v) || Check(v) != Check(v) || string(w.Bytes()) != string(again.Bytes()) {
			t.Errorf("the value %d is answered otherwise when it is asked again", i)
		}
		Encode(v)
		Clone(v)
		List(v, v)
		for _, x := range odd {
			if sign(Compare(v, x)) != -sign(Compare(x, v)) {
				t.Errorf("Compare of the values %d and another one turned about", i)
			}
		}
		if !endless(v) && !reflect.DeepEqual(Clone(v), was) {
			t.Errorf("the value %d was changed", i)
		}
	}
}
