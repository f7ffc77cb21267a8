package table

import (
	"fmt"
	"math"
	"reflect"
	"slices"
	"testing"

	"wayfinder/api"
)

// The model that the calls are held against is flat: a line for each rule, and one for each version, which it goes through as texts. It asks neither package rule nor package pick.

func size(n int) int { return 1 << (32 - n) }

func within(n, least, most int) bool { return least <= n && n <= most }

func mayModel(r api.Rule) bool {
	p, a := r.P, r.Act
	return within(p.Len, 0, 32) && within(p.Addr, 0, 1<<32-1) && p.Addr%size(p.Len) == 0 &&
		within(r.In, -1, 7) && within(r.Prio, 0, 255) && (a.Kind == 0 && a.Port == 0 || a.Kind == 1 && within(a.Port, 0, 7))
}

func fitsModel(r api.Rule, in, dst int) bool {
	p := r.P
	if !within(p.Len, 0, 32) || !within(p.Addr, 0, 1<<32-1) || p.Addr%size(p.Len) != 0 {
		return false
	}
	return int(uint32(dst))/size(p.Len) == p.Addr/size(p.Len) && (r.In == -1 || r.In == in)
}

// head is all that is even in rules that are alike.
func head(r api.Rule) string { return fmt.Sprint(r.P.Addr, r.P.Len, r.In, r.Prio) }

func sizeModel(l []api.Ver) (n int) {
	for _, v := range l {
		for range v.L {
			n++
		}
	}
	return n
}

func placeModel(l []api.Ver, tag int) int {
	return slices.IndexFunc(l, func(v api.Ver) bool { return v.Tag == tag })
}

func cloned(l []api.Ver) []api.Ver {
	out := make([]api.Ver, 0, len(l))
	for _, v := range l {
		out = append(out, api.Ver{Tag: v.Tag, L: append([]api.Rule{}, v.L...)})
	}
	return out
}

func putModel(l []api.Ver, tag int, r api.Rule, room int) ([]api.Ver, api.Errno) {
	out := cloned(l)
	if !within(tag, 1, 4095) || !mayModel(r) {
		return out, api.ErrArg
	}
	i := placeModel(out, tag)
	if i >= 0 {
		for k := range out[i].L {
			if head(out[i].L[k]) == head(r) {
				out[i].L[k] = r
				return out, api.OK
			}
		}
	}
	if sizeModel(l) >= room {
		return out, api.ErrFull
	}
	if i >= 0 {
		out[i].L = append(out[i].L, r)
		return out, api.OK
	}
	var more []api.Ver
	placed := false
	for _, v := range out {
		if v.Tag > tag && !placed {
			more, placed = append(more, api.Ver{Tag: tag, L: []api.Rule{r}}), true
		}
		more = append(more, v)
	}
	if !placed {
		more = append(more, api.Ver{Tag: tag, L: []api.Rule{r}})
	}
	return more, api.OK
}

func dropModel(l []api.Ver, tag int) []api.Ver {
	var out []api.Ver
	gone := false
	for _, v := range cloned(l) {
		if v.Tag == tag && !gone {
			gone = true
			continue
		}
		out = append(out, v)
	}
	return out
}

func lookModel(l []api.Ver, tag, in, dst int) (api.Action, int) {
	i := placeModel(l, tag)
	if i < 0 {
		return api.Action{}, api.NoVersion
	}
	best := -1
	for k, r := range l[i].L {
		if !fitsModel(r, in, dst) {
			continue
		}
		if best < 0 || slices.Compare([]int{r.P.Len, r.Prio, r.In}, []int{l[i].L[best].P.Len, l[i].L[best].Prio, l[i].L[best].In}) > 0 {
			best = k
		}
	}
	switch {
	case best < 0:
		return api.Action{}, api.NoRule
	case l[i].L[best].Act.Kind == 1:
		return l[i].L[best].Act, api.Went
	}
	return l[i].L[best].Act, api.ByRule
}

// same holds tables against each other: lists without elements may be nil or empty (R6).
func same(a, b []api.Ver) bool {
	return slices.EqualFunc(a, b, func(v, w api.Ver) bool { return v.Tag == w.Tag && slices.Equal(v.L, w.L) })
}

const ten = 10 << 24

func forward(addr, n, in, prio, port int) api.Rule {
	return api.Rule{P: api.Prefix{Addr: addr, Len: n}, In: in, Prio: prio, Act: api.Action{Kind: api.Forward, Port: port}}
}

func drop(addr, n, in, prio int) api.Rule {
	return api.Rule{P: api.Prefix{Addr: addr, Len: n}, In: in, Prio: prio}
}

func ver(tag int, l ...api.Rule) api.Ver { return api.Ver{Tag: tag, L: l} }

// wrongRules are such as may not be, each for one thing.
func wrongRules() map[string]api.Rule {
	act := func(kind, port int) api.Rule { return api.Rule{In: -1, Act: api.Action{Kind: kind, Port: port}} }
	return map[string]api.Rule{
		"Addr below 0": drop(-1, 32, -1, 0), "Addr beyond": drop(1<<32, 0, -1, 0), "Addr beyond its Len": drop(ten+1, 8, -1, 0),
		"Len below 0": drop(0, -1, -1, 0), "Len beyond": drop(0, 33, -1, 0),
		"In below AnyPort": drop(ten, 8, -2, 0), "In beyond": drop(ten, 8, 8, 0),
		"Prio below 0": drop(ten, 8, -1, -1), "Prio beyond": drop(ten, 8, -1, 256),
		"Kind below 0": act(-1, 0), "Kind beyond": act(2, 0), "Port of a Drop": act(api.Drop, 1),
		"Port below 0": act(api.Forward, -1), "Port beyond": act(api.Forward, 8),
		"all at the least":    {P: api.Prefix{Addr: math.MinInt, Len: math.MinInt}, In: math.MinInt, Prio: math.MinInt, Act: api.Action{Kind: math.MinInt, Port: math.MinInt}},
		"all at the greatest": {P: api.Prefix{Addr: math.MaxInt, Len: math.MaxInt}, In: math.MaxInt, Prio: math.MaxInt, Act: api.Action{Kind: math.MaxInt, Port: math.MaxInt}},
	}
}

// counter makes numbers from a number, the same ones each time.
type counter uint64

func (c *counter) next(below int) int {
	*c = *c*6364136223846793005 + 1442695040888963407
	return int(uint64(*c)>>31) % below
}

func (c *counter) one(l ...int) int { return l[c.next(len(l))] }

// far is a number that hardly anything may be.
func (c *counter) far() int {
	return c.one(math.MinInt, math.MinInt+1, math.MaxInt-1, math.MaxInt, -1, -2, 8, 33, 256, 4096, 1<<32, 1<<32+ten, 1<<40)
}

func (c *counter) addr() int { return c.one(0, ten, ten+1, ten|1<<16, 11<<24, 1<<31, 1<<32-1) }

// rule is one of few, so that many are alike, and several fit a packet.
func (c *counter) rule() api.Rule {
	n := c.one(0, 8, 16, 32)
	r := drop(c.one(0, ten, ten|1<<16)/size(n)*size(n), n, c.one(-1, -1, 0, 2), c.next(2))
	if c.next(3) > 0 {
		r.Act = api.Action{Kind: api.Forward, Port: c.next(8)}
	}
	return r
}

// wrong is a rule of which one number is most often such as may not be.
func (c *counter) wrong() api.Rule {
	r := c.rule()
	n := c.far()
	*[]*int{&r.P.Addr, &r.P.Len, &r.In, &r.Prio, &r.Act.Kind, &r.Act.Port}[c.next(6)] = n
	return r
}

func (c *counter) rules(most int) []api.Rule {
	var l []api.Rule
	for range c.next(most + 1) {
		if c.next(8) == 0 {
			l = append(l, c.wrong())
		} else {
			l = append(l, c.rule())
		}
	}
	return l
}

func (c *counter) tag() int {
	if c.next(12) == 0 {
		return c.far()
	}
	return c.one(0, 1, 2, 2, 3, 3, 4, 5, 4095, 4096)
}

// table is one that Put and Drop would hardly make: out of order, with tags twice, and without rules.
func (c *counter) table() []api.Ver {
	var l []api.Ver
	for range c.next(6) {
		l = append(l, ver(c.tag(), c.rules(4)...))
	}
	return l
}

// P9.1

func TestSize(t *testing.T) {
	a, b := drop(0, 0, -1, 0), drop(ten, 8, -1, 0)
	for _, x := range []struct {
		name string
		l    []api.Ver
		want int
	}{
		{"no versions", nil, 0},
		{"no versions, but a list", []api.Ver{}, 0},
		{"a version without rules", []api.Ver{ver(1)}, 0},
		{"versions without rules", []api.Ver{ver(1), {Tag: 2, L: []api.Rule{}}}, 0},
		{"one rule", []api.Ver{ver(1, a)}, 1},
		{"versions", []api.Ver{ver(1, a), ver(2), ver(3, b, a, a)}, 4},
		{"a tag twice: both", []api.Ver{ver(2, a, b), ver(2, a)}, 3},
		{"out of order, and tags that may not be", []api.Ver{ver(9, a), ver(-1, b), ver(0, b), ver(math.MaxInt, b)}, 4},
		{"rules that may not be", []api.Ver{ver(1, drop(1, 8, 9, 999), b)}, 2},
	} {
		if got := Size(x.l); got != x.want {
			t.Errorf("%s: Size is %d, want %d", x.name, got, x.want)
		}
	}
	l := []api.Ver{ver(1, make([]api.Rule, 700)...), ver(2, make([]api.Rule, 500)...)}
	if got := Size(l); got != 1200 {
		t.Errorf("of 1200 rules Size is %d", got)
	}
}

func TestOf(t *testing.T) {
	a, b, c := drop(0, 0, -1, 0), drop(ten, 8, -1, 0), forward(ten, 32, 7, 255, 7)
	l := []api.Ver{ver(1, a), ver(2, a, b, c), ver(4), ver(4095, c)}
	odd := []api.Ver{ver(3, b), ver(1, a), ver(3, c, c), ver(2, c), ver(0, a), ver(-5, b), ver(4096, a, a), ver(1, b, c), ver(math.MinInt, c)}
	for _, x := range []struct {
		name string
		l    []api.Ver
		tag  int
		want []api.Rule
		is   bool
	}{
		{"the first version", l, 1, []api.Rule{a}, true},
		{"between: as they stand, not as they count", l, 2, []api.Rule{a, b, c}, true},
		{"a version without rules", l, 4, nil, true},
		{"the last one", l, 4095, []api.Rule{c}, true},
		{"none: between", l, 3, nil, false},
		{"none: ahead", l, 0, nil, false},
		{"none: behind", l, 4096, nil, false},
		{"none: below 0", l, -1, nil, false},
		{"none: the least", l, math.MinInt, nil, false},
		{"none: the greatest", l, math.MaxInt, nil, false},
		{"no versions", nil, 1, nil, false},
		{"no versions, tag 0", nil, 0, nil, false},
		{"the first one of a tag twice", odd, 3, []api.Rule{b}, true},
		{"the first one of a tag twice, out of order", odd, 1, []api.Rule{a}, true},
		{"out of order", odd, 2, []api.Rule{c}, true},
		{"tag 0, if there is one", odd, 0, []api.Rule{a}, true},
		{"a tag below 0, if there is one", odd, -5, []api.Rule{b}, true},
		{"tag 4096, if there is one", odd, 4096, []api.Rule{a, a}, true},
		{"the least tag, if there is one", odd, math.MinInt, []api.Rule{c}, true},
		{"the first one of a tag has no rules", []api.Ver{ver(3), ver(3, a)}, 3, nil, true},
	} {
		if got, is := Of(x.l, x.tag); is != x.is || !slices.Equal(got, x.want) {
			t.Errorf("%s: %+v, %v; want %+v, %v", x.name, got, is, x.want, x.is)
		}
	}
}

// P9.2: Put

func TestPutExample(t *testing.T) { // the chapter's example
	r := forward(0, 0, -1, 0, 1)
	l, e := Put(nil, 2, r, 40)
	if e != api.OK || !same(l, []api.Ver{ver(2, r)}) {
		t.Fatalf("%+v, %d", l, e)
	}
	l, e = Put(l, 1, r, 40)
	if e != api.OK || !same(l, []api.Ver{ver(1, r), ver(2, r)}) {
		t.Fatalf("%+v, %d", l, e)
	}
	if act, what := Look(l, 3, 0, 0); act != (api.Action{}) || what != api.NoVersion {
		t.Errorf("%+v, %d", act, what)
	}
}

func TestPutPlaces(t *testing.T) {
	a, b, c, r := drop(0, 0, -1, 0), drop(ten, 8, -1, 0), drop(ten, 16, 1, 0), forward(ten, 32, 7, 255, 7)
	for _, x := range []struct {
		name string
		l    []api.Ver
		tag  int
		want []api.Ver
	}{
		{"no versions at all", nil, 5, []api.Ver{ver(5, r)}},
		{"no versions, but a list", []api.Ver{}, 5, []api.Ver{ver(5, r)}},
		{"ahead of the others", []api.Ver{ver(2, a), ver(4, b)}, 1, []api.Ver{ver(1, r), ver(2, a), ver(4, b)}},
		{"between the others", []api.Ver{ver(2, a), ver(4, b)}, 3, []api.Ver{ver(2, a), ver(3, r), ver(4, b)}},
		{"behind the others", []api.Ver{ver(2, a), ver(4, b)}, 5, []api.Ver{ver(2, a), ver(4, b), ver(5, r)}},
		{"the least tag", []api.Ver{ver(2, a)}, 1, []api.Ver{ver(1, r), ver(2, a)}},
		{"the greatest tag", []api.Ver{ver(4094, a)}, 4095, []api.Ver{ver(4094, a), ver(4095, r)}},
		{"behind the rules of its tag", []api.Ver{ver(2, a), ver(4, b, c), ver(5, c)}, 4, []api.Ver{ver(2, a), ver(4, b, c, r), ver(5, c)}},
		{"behind those of the first version", []api.Ver{ver(2, a), ver(4, b)}, 2, []api.Ver{ver(2, a, r), ver(4, b)}},
		{"behind those of the last version", []api.Ver{ver(2, a), ver(4, b)}, 4, []api.Ver{ver(2, a), ver(4, b, r)}},
		{"a version without rules", []api.Ver{ver(2), ver(4, b)}, 2, []api.Ver{ver(2, r), ver(4, b)}},
		{"a tag twice: the first one", []api.Ver{ver(3, a), ver(3, b), ver(4, c)}, 3, []api.Ver{ver(3, a, r), ver(3, b), ver(4, c)}},
		{"a tag twice, alike in the second one", []api.Ver{ver(3, a), ver(3, r)}, 3, []api.Ver{ver(3, a, r), ver(3, r)}},
		{"out of order: ahead of the first greater one", []api.Ver{ver(2, a), ver(9, b), ver(1, c), ver(8, a)}, 5, []api.Ver{ver(2, a), ver(5, r), ver(9, b), ver(1, c), ver(8, a)}},
		{"out of order: the first one is greater", []api.Ver{ver(9, b), ver(1, c), ver(2, a)}, 3, []api.Ver{ver(3, r), ver(9, b), ver(1, c), ver(2, a)}},
		{"out of order: none is greater", []api.Ver{ver(3, b), ver(1, c), ver(2, a)}, 7, []api.Ver{ver(3, b), ver(1, c), ver(2, a), ver(7, r)}},
		{"out of order: it is there, behind a greater one", []api.Ver{ver(9, b), ver(3, c), ver(2, a)}, 3, []api.Ver{ver(9, b), ver(3, c, r), ver(2, a)}},
		{"a greater one twice", []api.Ver{ver(1, a), ver(4, b), ver(4, c)}, 3, []api.Ver{ver(1, a), ver(3, r), ver(4, b), ver(4, c)}},
		{"beside tags that may not be", []api.Ver{ver(-1, a), ver(0, b), ver(4096, c)}, 1, []api.Ver{ver(-1, a), ver(0, b), ver(1, r), ver(4096, c)}},
	} {
		if got, e := Put(x.l, x.tag, r, 40); e != api.OK || !same(got, x.want) {
			t.Errorf("%s: %+v, %d; want %+v", x.name, got, e, x.want)
		}
	}
}

func TestPutInPlace(t *testing.T) {
	old := drop(ten, 8, 2, 5)
	r := forward(ten, 8, 2, 5, 6)
	// each is not alike in one thing alone
	others := []api.Rule{drop(11<<24, 8, 2, 5), drop(ten, 9, 2, 5), drop(ten, 8, -1, 5), drop(ten, 8, 3, 5), drop(ten, 8, 2, 4), drop(ten, 8, 2, 6)}
	if got, e := Put([]api.Ver{ver(2, others...)}, 2, r, 40); e != api.OK || !same(got, []api.Ver{ver(2, append(slices.Clone(others), r)...)}) {
		t.Errorf("none is alike: %+v, %d", got, e)
	}
	for i := range len(others) + 1 {
		l := []api.Ver{ver(1, old), ver(2, slices.Insert(slices.Clone(others), i, old)...), ver(3, old)}
		want := []api.Ver{ver(1, old), ver(2, slices.Insert(slices.Clone(others), i, r)...), ver(3, old)}
		for _, room := range []int{40, Size(l) + 1, Size(l), Size(l) - 1, 1, 0, -1, math.MinInt} { // what is alike needs no room
			if got, e := Put(l, 2, r, room); e != api.OK || !same(got, want) {
				t.Errorf("alike at %d, room %d: %+v, %d", i, room, got, e)
			}
		}
	}
	l := []api.Ver{ver(2, others[0], old, others[1], old, r)}
	if got, e := Put(l, 2, r, 5); e != api.OK || !same(got, []api.Ver{ver(2, others[0], r, others[1], old, r)}) {
		t.Errorf("the first one that is alike: %+v, %d", got, e)
	}
	l = []api.Ver{ver(2, others[0]), ver(2, old)}
	if got, e := Put(l, 2, r, 2); e != api.ErrFull || !same(got, l) {
		t.Errorf("alike in the second version of a tag alone: %+v, %d", got, e)
	}
	if got, e := Put([]api.Ver{ver(2, r)}, 2, r, 0); e != api.OK || !same(got, []api.Ver{ver(2, r)}) {
		t.Errorf("the same again: %+v, %d", got, e)
	}
}

func TestPutRoom(t *testing.T) {
	a, b, r := drop(0, 0, -1, 0), drop(ten, 8, -1, 0), forward(ten, 32, 7, 255, 7)
	for _, l := range [][]api.Ver{nil, {ver(1, a)}, {ver(1, a), ver(3, a, b)}, {ver(1, a), ver(3), ver(5, b, b, a)}, {ver(3, a), ver(3, a, b)}} {
		n := Size(l)
		for _, tag := range []int{1, 2, 3, 4, 5, 4095} {
			for _, room := range []int{math.MinInt, -1, 0, n - 2, n - 1, n, n + 1, n + 2, 40, math.MaxInt} {
				want, wantE := putModel(l, tag, r, room)
				if n >= room && wantE != api.ErrFull || n < room && wantE != api.OK {
					t.Fatalf("the model errs: %d rules, room %d: %d", n, room, wantE)
				}
				if got, e := Put(l, tag, r, room); e != wantE || !same(got, want) {
					t.Errorf("Put(%+v, %d, .., %d) = %+v, %d; want %+v, %d", l, tag, room, got, e, want, wantE)
				}
			}
		}
	}
}

func TestPutFills(t *testing.T) { // as many as there is room for, and not one more
	for _, room := range []int{0, 1, 2, 39, 40} {
		var l []api.Ver
		for i := range 50 {
			m, e := Put(l, 1+i%3, drop(i, 32, -1, 0), room)
			if want := api.OK; i < room && e != want {
				t.Fatalf("rule %d of room %d: %d", i, room, e)
			}
			if i >= room && (e != api.ErrFull || !same(m, l)) {
				t.Fatalf("rule %d of room %d: %d", i, room, e)
			}
			l = m
		}
		if Size(l) != room {
			t.Errorf("room %d holds %d", room, Size(l))
		}
	}
}

func TestPutRefusesTags(t *testing.T) {
	r := forward(ten, 32, 7, 255, 7)
	l := []api.Ver{ver(-1, r), ver(0, r), ver(4096, r)} // also where there is such a version, and a rule alike
	for _, tag := range []int{math.MinInt, -4096, -1, 0, 4096, 4097, 1 << 16, 1<<16 + 1, 1<<32 + 1, math.MaxInt} {
		for _, room := range []int{40, 3, 0, -1} { // ErrArg ahead of ErrFull
			for _, m := range [][]api.Ver{nil, l} {
				if got, e := Put(m, tag, r, room); e != api.ErrArg || !same(got, m) {
					t.Errorf("Put(%+v, %d, .., %d) = %+v, %d; want ErrArg, and the table", m, tag, room, got, e)
				}
			}
		}
	}
	for _, tag := range []int{1, 2, 4094, 4095} {
		if got, e := Put(nil, tag, r, 1); e != api.OK || !same(got, []api.Ver{ver(tag, r)}) {
			t.Errorf("tag %d: %+v, %d", tag, got, e)
		}
	}
}

func TestPutRefusesRules(t *testing.T) {
	for name, r := range wrongRules() {
		for _, l := range [][]api.Ver{nil, {ver(1, drop(ten, 8, -1, 0)), ver(3, drop(0, 0, -1, 0))}, {ver(2, r)}} { // also where there is one alike
			for _, room := range []int{40, 1, 0, -1} {
				if got, e := Put(l, 2, r, room); e != api.ErrArg || !same(got, l) {
					t.Errorf("%s: Put(%+v, 2, .., %d) = %+v, %d; want ErrArg, and the table", name, l, room, got, e)
				}
			}
		}
	}
	for _, r := range []api.Rule{{}, drop(0, 0, -1, 0), drop(1<<32-1, 32, 7, 255), forward(0, 0, -1, 0, 0), forward(1<<31, 1, 0, 255, 7)} {
		if got, e := Put(nil, 2, r, 1); e != api.OK || !same(got, []api.Ver{ver(2, r)}) {
			t.Errorf("%+v: %+v, %d", r, got, e)
		}
	}
}

func TestPutAgainstModel(t *testing.T) {
	c := counter(1)
	seen := map[api.Errno]int{}
	inPlace := 0
	for range 20000 {
		l, tag, r := c.table(), c.tag(), c.rule()
		switch c.next(10) {
		case 0:
			r = c.wrong()
		case 1, 2: // alike, most often
			if i := placeModel(l, tag); i >= 0 && len(l[i].L) > 0 {
				act := r.Act
				r = l[i].L[c.next(len(l[i].L))]
				r.Act = act
			}
		}
		room := Size(l) + c.one(-1, 0, 1, 1, 2, 30)
		if c.next(12) == 0 {
			room = c.far()
		}
		want, wantE := putModel(l, tag, r, room)
		if got, e := Put(l, tag, r, room); e != wantE || !same(got, want) {
			t.Fatalf("Put(%+v, %d, %+v, %d) = %+v, %d; want %+v, %d", l, tag, r, room, got, e, want, wantE)
		}
		seen[wantE]++
		if wantE == api.OK && sizeModel(want) == sizeModel(l) {
			inPlace++
		}
	}
	if seen[api.OK] < 4000 || seen[api.ErrArg] < 2000 || seen[api.ErrFull] < 2000 || inPlace < 500 {
		t.Errorf("%v, and %d in a place: too few to tell by", seen, inPlace)
	}
}

// P9.2: Drop

func TestDrop(t *testing.T) {
	a, b, c := drop(0, 0, -1, 0), drop(ten, 8, -1, 0), forward(ten, 32, 7, 255, 7)
	l := []api.Ver{ver(1, a), ver(2, a, b), ver(4), ver(4095, c)}
	odd := []api.Ver{ver(3, b), ver(1, a), ver(3, c), ver(0, a), ver(-5, b), ver(4096, c), ver(3, a)}
	for _, x := range []struct {
		name string
		l    []api.Ver
		tag  int
		want []api.Ver
	}{
		{"the first one", l, 1, []api.Ver{l[1], l[2], l[3]}},
		{"between", l, 2, []api.Ver{l[0], l[2], l[3]}},
		{"without rules", l, 4, []api.Ver{l[0], l[1], l[3]}},
		{"the last one", l, 4095, []api.Ver{l[0], l[1], l[2]}},
		{"the only one", []api.Ver{ver(7, a)}, 7, nil},
		{"none: between", l, 3, l},
		{"none: ahead", l, 0, l},
		{"none: behind", l, 4096, l},
		{"none: below 0", l, -1, l},
		{"none: the least", l, math.MinInt, l},
		{"none: the greatest", l, math.MaxInt, l},
		{"no versions", nil, 1, nil},
		{"no versions, but a list", []api.Ver{}, 0, nil},
		{"a tag thrice: the first one alone", odd, 3, slices.Delete(cloned(odd), 0, 1)},
		{"out of order", odd, 1, slices.Delete(cloned(odd), 1, 2)},
		{"tag 0, if there is one", odd, 0, slices.Delete(cloned(odd), 3, 4)},
		{"a tag below 0, if there is one", odd, -5, slices.Delete(cloned(odd), 4, 5)},
		{"tag 4096, if there is one", odd, 4096, slices.Delete(cloned(odd), 5, 6)},
	} {
		if got := Drop(x.l, x.tag); !same(got, x.want) {
			t.Errorf("%s: %+v, want %+v", x.name, got, x.want)
		}
	}
}

func TestDropAgainstModel(t *testing.T) {
	c := counter(2)
	gone := 0
	for range 10000 {
		l, tag := c.table(), c.tag()
		got, want := Drop(l, tag), dropModel(l, tag)
		if !same(got, want) {
			t.Fatalf("Drop(%+v, %d) = %+v, want %+v", l, tag, got, want)
		}
		if len(want) < len(l) {
			gone++
		}
	}
	if gone < 2000 || gone > 8000 {
		t.Errorf("of 10000 one went at %d: too few or too many to tell by", gone)
	}
}

// P9.3

func TestLook(t *testing.T) {
	wide, near, from := forward(0, 0, -1, 255, 1), forward(ten, 8, -1, 0, 2), forward(ten, 8, 3, 0, 7)
	gone, zero := drop(ten|1<<16, 16, -1, 9), forward(ten|1<<16, 32, -1, 0, 0)
	l := []api.Ver{ver(1, near), ver(2, wide, near, from, gone, zero), ver(3), ver(4095, gone)}
	odd := []api.Ver{ver(3, near), ver(1, wide), ver(3, gone), ver(0, wide), ver(-5, gone), ver(4096, near), ver(2), ver(2, wide)}
	to := func(port int) api.Action { return api.Action{Kind: api.Forward, Port: port} }
	none := api.Action{}
	for _, x := range []struct {
		name         string
		l            []api.Ver
		tag, in, dst int
		act          api.Action
		what         int
	}{
		{"one fits", l, 1, 0, ten, to(2), api.Went},
		{"of several the longer prefix", l, 2, 0, ten, to(2), api.Went},
		{"of several the one from the port", l, 2, 3, ten, to(7), api.Went},
		{"of several a Drop", l, 2, 3, ten | 1<<16 | 1, none, api.ByRule},
		{"of several the whole address, to port 0", l, 2, 3, ten | 1<<16, to(0), api.Went},
		{"only the rule for all", l, 2, 3, 11 << 24, to(1), api.Went},
		{"another tag has one, this one not", l, 1, 0, 11 << 24, none, api.NoRule},
		{"no rules", l, 3, 0, ten, none, api.NoRule},
		{"a Drop alone", l, 4095, 0, ten | 1<<16, none, api.ByRule},
		{"a Drop that does not fit", l, 4095, 0, ten, none, api.NoRule},
		{"no version: between", l, 4, 0, ten, none, api.NoVersion},
		{"no version: ahead", l, 0, 0, ten, none, api.NoVersion},
		{"no version: behind", l, 4096, 0, ten, none, api.NoVersion},
		{"no version: below 0", l, -1, 0, ten, none, api.NoVersion},
		{"no version: the least", l, math.MinInt, 0, ten, none, api.NoVersion},
		{"no version: the greatest", l, math.MaxInt, 0, ten, none, api.NoVersion},
		{"no versions", nil, 1, 0, ten, none, api.NoVersion},
		{"no versions, tag 0", nil, 0, 0, ten, none, api.NoVersion},
		{"a tag twice: the first one", odd, 3, 0, ten | 1<<16, to(2), api.Went},
		{"a tag twice: the first one has no rules", odd, 2, 0, ten, none, api.NoRule},
		{"out of order", odd, 1, 0, ten, to(1), api.Went},
		{"tag 0, if there is one", odd, 0, 0, ten, to(1), api.Went},
		{"a tag below 0, if there is one", odd, -5, 0, ten | 1<<16, none, api.ByRule},
		{"tag 4096, if there is one", odd, 4096, 0, ten, to(2), api.Went},
		{"even ones: the first", []api.Ver{ver(1, near, forward(ten, 8, -1, 0, 5))}, 1, 0, ten, to(2), api.Went},
		{"a port below 0", l, 2, -1, ten, to(2), api.Went},
		{"a port beyond its bound", l, 2, math.MaxInt, ten, to(2), api.Went},
		{"an address below 0", l, 2, 0, -1, to(1), api.Went},
		{"an address beyond its bound: the last 32 bits", l, 1, 0, 1<<32 + ten, to(2), api.Went},
		{"the least address", l, 1, 0, math.MinInt, none, api.NoRule},
	} {
		if act, what := Look(x.l, x.tag, x.in, x.dst); act != x.act || what != x.what {
			t.Errorf("%s: %+v, %d; want %+v, %d", x.name, act, what, x.act, x.what)
		}
	}
}

func TestLookAtWrongRules(t *testing.T) { // an Act is told as it stands: only a Forward Went
	for _, act := range []api.Action{{Kind: -1}, {Kind: 2}, {Kind: 2, Port: 5}, {Kind: api.Drop, Port: 5}, {Kind: math.MaxInt, Port: math.MinInt}} {
		l := []api.Ver{ver(1, api.Rule{In: -1, Act: act})}
		if got, what := Look(l, 1, 0, 0); got != act || what != api.ByRule {
			t.Errorf("%+v: %+v, %d", act, got, what)
		}
	}
	for _, port := range []int{-1, 8, math.MinInt, math.MaxInt} {
		act := api.Action{Kind: api.Forward, Port: port}
		if got, what := Look([]api.Ver{ver(1, api.Rule{In: -1, Act: act})}, 1, 0, 0); got != act || what != api.Went {
			t.Errorf("%+v: %+v, %d", act, got, what)
		}
	}
	for _, r := range []api.Rule{drop(ten+1, 8, -1, 0), drop(0, 33, -1, 0), drop(0, -1, -1, 0), drop(1<<32+ten, 8, -1, 0), drop(0, 0, -2, 0)} {
		if got, what := Look([]api.Ver{ver(1, r)}, 1, 0, ten+1); got != (api.Action{}) || what != api.NoRule {
			t.Errorf("%+v fits no packet from 0: %+v, %d", r, got, what)
		}
	}
}

func TestLookAgainstModel(t *testing.T) {
	c := counter(3)
	seen := map[int]int{}
	for range 20000 {
		l, tag, in, dst := c.table(), c.tag(), c.next(4)-1, c.addr()
		if len(l) > 0 && c.next(2) == 0 {
			tag = l[c.next(len(l))].Tag
		}
		switch c.next(8) {
		case 0:
			in = c.far()
		case 1:
			dst = c.far()
		}
		wantAct, want := lookModel(l, tag, in, dst)
		if act, what := Look(l, tag, in, dst); act != wantAct || what != want {
			t.Fatalf("Look(%+v, %d, %d, %d) = %+v, %d; want %+v, %d", l, tag, in, dst, act, what, wantAct, want)
		}
		seen[want]++
	}
	for _, what := range []int{api.Went, api.ByRule, api.NoRule, api.NoVersion} {
		if seen[what] < 800 {
			t.Errorf("%v: too few to tell by", seen)
		}
	}
}

// P9.4, and the words of a table

// tableOf puts rules under tags, one by one.
func tableOf(t *testing.T, puts []api.Ver) []api.Ver {
	t.Helper()
	var l []api.Ver
	for _, v := range puts {
		for _, r := range v.L {
			m, e := Put(l, v.Tag, r, 100)
			if e != api.OK {
				t.Fatalf("Put(%+v, %d, %+v, 100): %d", l, v.Tag, r, e)
			}
			l = m
		}
	}
	return l
}

func rising(l []api.Ver) bool {
	for i := range l {
		if i > 0 && l[i-1].Tag >= l[i].Tag {
			return false
		}
	}
	return true
}

// orders calls with l in all orders, from a place on.
func orders(l []api.Ver, at int, call func([]api.Ver)) {
	if at >= len(l)-1 {
		call(slices.Clone(l))
		return
	}
	for i := at; i < len(l); i++ {
		l[at], l[i] = l[i], l[at]
		orders(l, at+1, call)
		l[at], l[i] = l[i], l[at]
	}
}

func TestOrderOfPuts(t *testing.T) {
	a, b, c := drop(0, 0, -1, 0), forward(ten, 8, -1, 0, 2), forward(ten, 8, 3, 0, 7)
	puts := []api.Ver{ver(1, a), ver(1, b), ver(2, b), ver(3, c), ver(3, a), ver(4095, c)}
	whole := []api.Ver{ver(1, a, b), ver(2, b), ver(3, c, a), ver(4095, c)}
	orders(puts, 0, func(p []api.Ver) {
		l := tableOf(t, p)
		if !rising(l) || len(l) != 4 || Size(l) != 6 {
			t.Fatalf("put as %+v, it is %+v", p, l)
		}
		for _, tag := range []int{1, 2, 3, 4, 4095} {
			for _, in := range []int{2, 3} {
				for _, dst := range []int{ten, 11 << 24} {
					wantAct, want := lookModel(whole, tag, in, dst)
					if act, what := Look(l, tag, in, dst); act != wantAct || what != want {
						t.Fatalf("put as %+v, Look(.., %d, %d, %d) = %+v, %d; want %+v, %d", p, tag, in, dst, act, what, wantAct, want)
					}
				}
			}
		}
	})
}

func TestTagsApart(t *testing.T) { // what one tag has does not change what another one has
	c := counter(4)
	tags := []int{1, 2, 3, 4, 4094, 4095}
	for range 300 {
		var l []api.Ver
		want := map[int][]api.Rule{}
		for range 60 {
			tag, r := tags[c.next(len(tags))], c.rule()
			if c.next(9) == 0 {
				l = Drop(l, tag)
				delete(want, tag)
			} else {
				m, e := Put(l, tag, r, 25)
				alike := slices.IndexFunc(want[tag], func(o api.Rule) bool { return head(o) == head(r) })
				switch {
				case alike >= 0:
					want[tag][alike] = r
				case Size(l) < 25:
					want[tag] = append(want[tag], r)
				case e != api.ErrFull:
					t.Fatalf("Put(%+v, %d, %+v, 25): %d", l, tag, r, e)
				}
				l = m
			}
			if !rising(l) || len(l) != len(want) {
				t.Fatalf("%+v is no table of %v", l, want)
			}
			for _, other := range tags {
				_, wantIs := want[other]
				if got, is := Of(l, other); is != wantIs || !slices.Equal(got, want[other]) {
					t.Fatalf("of %d: %+v, %v; want %+v", other, got, is, want[other])
				}
			}
		}
	}
}

func TestPutIsLookedUp(t *testing.T) {
	c := counter(5)
	for range 4000 {
		l, tag, r := c.table(), 1+c.next(5), c.rule()
		l = Drop(Drop(Drop(Drop(Drop(Drop(l, tag), tag), tag), tag), tag), tag)
		if _, is := Of(l, tag); is {
			t.Fatalf("%d is dropped, and still there: %+v", tag, l)
		}
		if act, what := Look(l, tag, 2, ten); act != (api.Action{}) || what != api.NoVersion {
			t.Fatalf("%d is dropped; Look is %+v, %d", tag, act, what)
		}
		m, e := Put(l, tag, r, 100)
		if got, is := Of(m, tag); e != api.OK || !is || !slices.Equal(got, []api.Rule{r}) {
			t.Fatalf("%+v is put, and there is %+v, %v, %d", r, got, is, e)
		}
		want := map[bool]int{true: api.Went, false: api.ByRule}[r.Act.Kind == api.Forward]
		if act, what := Look(m, tag, max(r.In, 0), r.P.Addr); act != r.Act || what != want {
			t.Fatalf("%+v is put, and Look is %+v, %d", r, act, what)
		}
		if !same(Drop(m, tag), l) {
			t.Fatalf("put and dropped, %+v is %+v", l, Drop(m, tag))
		}
	}
}

// R3

// roomy is a table whose lists have room behind them, with something in it, and whose versions share theirs.
func roomy() (l []api.Ver, all []api.Rule) {
	all = []api.Rule{
		drop(0, 0, -1, 0), forward(ten, 8, -1, 0, 2), forward(ten, 8, 3, 0, 7), drop(ten, 16, 1, 1), drop(ten, 32, 1, 1), drop(11<<24, 8, 1, 1), drop(12<<24, 8, 1, 1),
	}
	vers := []api.Ver{ver(2, all[:2]...), ver(4, all[1:4]...), ver(6, all[5:6]...), ver(9, all[:1]...), ver(11, all[2:3]...)}
	return vers[:3], all
}

// calls are all the ways of Put and Drop, by name.
func calls() map[string]func([]api.Ver) []api.Ver {
	put := func(tag int, r api.Rule, room int) func([]api.Ver) []api.Ver {
		return func(l []api.Ver) []api.Ver { m, _ := Put(l, tag, r, room); return m }
	}
	r := forward(13<<24, 8, 5, 5, 5)
	return map[string]func([]api.Ver) []api.Ver{
		"in place": put(4, drop(ten, 8, 3, 0), 0), "behind": put(4, r, 40), "behind the first": put(2, r, 40), "behind the last": put(6, r, 40),
		"a version ahead": put(1, r, 40), "a version between": put(3, r, 40), "a version behind": put(7, r, 40),
		"ErrFull": put(4, r, 6), "ErrFull of a new tag": put(5, r, 6), "ErrArg by tag": put(0, r, 40), "ErrArg by rule": put(4, drop(1, 8, 0, 0), 40),
		"dropped first":   func(l []api.Ver) []api.Ver { return Drop(l, 2) },
		"dropped between": func(l []api.Ver) []api.Ver { return Drop(l, 4) },
		"dropped last":    func(l []api.Ver) []api.Ver { return Drop(l, 6) },
		"dropped none":    func(l []api.Ver) []api.Ver { return Drop(l, 5) },
	}
}

// spoil writes into all that a table has, and into the room behind it.
func spoil(l []api.Ver) {
	bad := api.Rule{P: api.Prefix{Addr: 66, Len: 66}, In: 66}
	for _, v := range l[:cap(l)] {
		for i := range v.L[:cap(v.L)] {
			v.L[:cap(v.L)][i] = bad
		}
	}
	for i := range l[:cap(l)] {
		l[:cap(l)][i] = ver(66, bad)
	}
}

func TestTablesStay(t *testing.T) {
	for name, call := range calls() {
		l, all := roomy()
		vers, rules := cloned(l[:cap(l)]), slices.Clone(all)
		hold := func(when string) {
			t.Helper()
			if !same(l[:cap(l)], vers) || !slices.Equal(all, rules) {
				t.Errorf("%s: what was handed in, or the room behind it, is another one %s", name, when)
			}
		}
		m := call(l)
		hold("after the call")
		Size(l)
		Look(l, 4, 3, ten)
		Of(l, 4)
		hold("after the asking")
		spoil(m)
		hold("when what was told is changed")
	}
}

func TestTablesAreOwn(t *testing.T) { // and no two lists of one answer share any
	for name, call := range calls() {
		l, _ := roomy()
		m := call(l)
		kept := cloned(m)
		spoil(l)
		if !same(m, kept) {
			t.Errorf("%s: what was told changes with what was handed in", name)
		}
		for i := range m {
			_ = append(m[i].L, forward(0, 0, 0, 0, 0))
			if !same(m, kept) {
				t.Errorf("%s: version %d grows into another one", name, i)
			}
			for k := range m[i].L {
				m[i].L[k].Prio += 1000
				kept[i].L[k].Prio += 1000
			}
			if !same(m, kept) {
				t.Errorf("%s: versions share rules with version %d", name, i)
			}
		}
	}
}

func TestRulesOfAreOwn(t *testing.T) {
	l, all := roomy()
	vers, rules := cloned(l[:cap(l)]), slices.Clone(all)
	got, _ := Of(l, 4)
	want := slices.Clone(got)
	for i := range got[:cap(got)] {
		got[:cap(got)][i].Prio = 1234
	}
	if !same(l[:cap(l)], vers) || !slices.Equal(all, rules) {
		t.Error("changing what Of told changes the table")
	}
	again, _ := Of(l, 4)
	spoil(l)
	if !slices.Equal(again, want) {
		t.Error("what Of told changes with the table")
	}
}

func TestAskedAgain(t *testing.T) { // R5
	for name, call := range calls() {
		l, _ := roomy()
		first := call(l)
		for range 3 {
			if again := call(l); !reflect.DeepEqual(again, first) {
				t.Errorf("%s: asked again, it tells %+v, not %+v", name, again, first)
			}
		}
	}
}
