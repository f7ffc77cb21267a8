package conf

import (
	"math"
	"slices"
	"testing"

	"wayfinder/api"
)

// The model that the calls are held against holds each rule against each other one, and takes from a list what another one has; it has no map and no order. It asks none of the packages that conf stands on.

func within(n, least, most int) bool { return least <= n && n <= most }

func isPortModel(t api.Topo, sw, port int) bool {
	return within(sw, 0, t.Switches-1) && within(port, 0, t.Ports-1)
}

func mayTopoModel(t api.Topo) bool {
	if !within(t.Switches, 1, 6) || !within(t.Ports, 1, 8) || len(t.Links) > 12 {
		return false
	}
	var ends [][2]int
	for _, k := range t.Links {
		if !isPortModel(t, k.A, k.PA) || !isPortModel(t, k.B, k.PB) {
			return false
		}
		ends = append(ends, [2]int{k.A, k.PA}, [2]int{k.B, k.PB})
	}
	for i := range ends {
		if slices.Contains(ends[:i], ends[i]) {
			return false
		}
	}
	return true
}

func mayRuleModel(r api.Rule) bool {
	p, a := r.P, r.Act
	if !within(p.Len, 0, 32) || !within(p.Addr, 0, 1<<32-1) || p.Addr%(1<<(32-p.Len)) != 0 {
		return false
	}
	return within(r.In, -1, 7) && within(r.Prio, 0, 255) && (a == api.Action{} || a.Kind == 1 && within(a.Port, 0, 7))
}

func alikeModel(a, b api.Rule) bool {
	a.Act, b.Act = api.Action{}, api.Action{}
	return a == b
}

func mayListModel(l []api.Rule, ports int) bool {
	if len(l) > 40 {
		return false
	}
	for i, r := range l {
		if !mayRuleModel(r) || r.In >= ports || r.Act.Kind == 1 && r.Act.Port >= ports {
			return false
		}
		for _, s := range l[:i] {
			if alikeModel(r, s) {
				return false
			}
		}
	}
	return true
}

func mayModel(t api.Topo, c api.Conf) bool {
	if !mayTopoModel(t) || t.Switches != len(c) {
		return false
	}
	for _, l := range c {
		if !mayListModel(l, t.Ports) {
			return false
		}
	}
	return true
}

func mostModel(c api.Conf) int {
	var lengths []int
	for _, l := range c {
		lengths = append(lengths, len(l))
	}
	return slices.Max(append(lengths, 0))
}

func atModel(c api.Conf, sw int) []api.Rule {
	for i, l := range c {
		if i == sw {
			return l
		}
	}
	return nil
}

// sameListModel takes from b, rule by rule, what a has.
func sameListModel(a, b []api.Rule) bool {
	b = append([]api.Rule(nil), b...)
	for _, r := range a {
		i := slices.Index(b, r)
		if i < 0 {
			return false
		}
		b = slices.Delete(b, i, i+1)
	}
	return len(b) == 0
}

func sameModel(a, b api.Conf) bool {
	if len(a) != len(b) {
		return false
	}
	for i := range a {
		if !sameListModel(a[i], b[i]) {
			return false
		}
	}
	return true
}

const ten = 10 << 24

func forward(addr, n, in, prio, port int) api.Rule {
	return api.Rule{P: api.Prefix{Addr: addr, Len: n}, In: in, Prio: prio, Act: api.Action{Kind: api.Forward, Port: port}}
}

func drop(addr, n, in, prio int) api.Rule {
	return api.Rule{P: api.Prefix{Addr: addr, Len: n}, In: in, Prio: prio}
}

func network(switches, ports int, l ...api.Link) api.Topo {
	return api.Topo{Switches: switches, Ports: ports, Links: l}
}

func list(l ...api.Rule) []api.Rule { return l }

// many are so many rules, no two of them alike.
func many(n int) []api.Rule {
	var l []api.Rule
	for i := range n {
		l = append(l, drop(i<<8, 24, -1, 0))
	}
	return l
}

func copied(c api.Conf) api.Conf {
	var d api.Conf
	for _, l := range c {
		d = append(d, slices.Clone(l))
	}
	return d
}

// counter makes numbers from a number, the same ones each time.
type counter uint64

func (c *counter) next(below int) int {
	*c = *c*6364136223846793005 + 1442695040888963407
	return int(uint64(*c)>>31) % below
}

func (c *counter) one(l ...int) int { return l[c.next(len(l))] }

// wide is a number that hardly anything may be.
func (c *counter) wide() int {
	return c.one(math.MinInt, math.MinInt+1, math.MaxInt-1, math.MaxInt, -1, -2, 8, 9, 33, 40, 256, 1<<32, 1<<40)
}

// rule is one of few places, so that many are alike.
func (c *counter) rule(ports int) api.Rule {
	p := [...]api.Prefix{{}, {Addr: ten, Len: 8}, {Addr: ten, Len: 9}, {Addr: ten | 1<<16, Len: 16}, {Addr: 1<<32 - 1, Len: 32}}[c.next(5)]
	r := drop(p.Addr, p.Len, c.next(ports+1)-1, c.one(0, 1, 255))
	if c.next(2) == 0 {
		r.Act = api.Action{Kind: api.Forward, Port: c.next(ports)}
	}
	return r
}

// turned is a rule in which one number is another one.
func (c *counter) turned(r api.Rule) api.Rule {
	*[]*int{&r.P.Addr, &r.P.Len, &r.In, &r.Prio, &r.Act.Kind, &r.Act.Port}[c.next(6)] = c.one(c.next(9), c.next(3), c.wide())
	return r
}

func (c *counter) conf(switches, ports, most int) api.Conf {
	var f api.Conf
	for range switches {
		var l []api.Rule
		for range c.next(most + 1) {
			l = append(l, c.rule(ports))
		}
		f = append(f, l)
	}
	return f
}

// good is a configuration of which no list has rules that are alike.
func (c *counter) good(switches, ports, most int) api.Conf {
	f := c.conf(switches, ports, most)
	for i, l := range f {
		var kept []api.Rule
		for _, r := range l {
			if !slices.ContainsFunc(kept, func(s api.Rule) bool { return alikeModel(r, s) }) {
				kept = append(kept, r)
			}
		}
		f[i] = kept
	}
	return f
}

// mixed is the same rules, each list in any order.
func (c *counter) mixed(f api.Conf) api.Conf {
	f = copied(f)
	for _, l := range f {
		for i := range l {
			j := c.next(i + 1)
			l[i], l[j] = l[j], l[i]
		}
	}
	return f
}

func (c *counter) topo(switches, ports int) api.Topo {
	t := network(switches, ports)
	if ports > 1 && c.next(2) == 0 {
		t.Links = append(t.Links, api.Link{A: 0, PA: 0, B: switches - 1, PB: 1})
	}
	return t
}

// P12.1: May

func TestMay(t *testing.T) {
	two := network(2, 2, api.Link{A: 0, PA: 1, B: 1, PB: 0})
	one := network(1, 2)
	a, b := forward(0, 0, -1, 0, 1), forward(ten, 8, 1, 0, 0)
	for _, x := range []struct {
		name string
		t    api.Topo
		c    api.Conf
		want bool
	}{
		{"the chapter's example, to 1", one, api.Conf{{a}}, true},
		{"the chapter's example, to 2", one, api.Conf{{forward(0, 0, -1, 0, 2)}}, false},
		{"noughts", api.Topo{}, nil, false},
		{"no switch, no list, but ports", network(0, 2), api.Conf{}, false},

		{"two lists without rules", two, api.Conf{nil, {}}, true},
		{"two lists, one with rules", two, api.Conf{{a, b}, nil}, true},
		{"two lists, the other with rules", two, api.Conf{nil, {a, b}}, true},
		{"two lists with rules", two, api.Conf{{a, b}, {b}}, true},
		{"no list", two, nil, false},
		{"a list too few", two, api.Conf{{a}}, false},
		{"a list too many", two, api.Conf{{a}, {b}, {a}}, false},
		{"a list too many, without rules", two, api.Conf{{a}, {b}, nil}, false},
		{"six switches", network(6, 8), api.Conf{nil, {a}, nil, nil, nil, {b}}, true},
		{"five lists of six", network(6, 8), make(api.Conf, 5), false},
		{"seven lists of six", network(6, 8), make(api.Conf, 7), false},

		{"seven switches", network(7, 2), make(api.Conf, 7), false},
		{"no port", network(1, 0), api.Conf{nil}, false},
		{"nine ports", network(1, 9), api.Conf{nil}, false},
		{"ports as many as they come", network(1, math.MaxInt), api.Conf{{a}}, false},
		{"switches as few as they come", network(math.MinInt, 2), api.Conf{{a}}, false},
		{"a link to no port", network(2, 2, api.Link{A: 0, PA: 1, B: 1, PB: 2}), api.Conf{{a}, nil}, false},
		{"a port an end of two", network(2, 2, api.Link{A: 0, PA: 1, B: 1, PB: 0}, api.Link{A: 0, PA: 1, B: 1, PB: 1}), api.Conf{{a}, nil}, false},
		{"13 links", network(2, 8, make([]api.Link, 13)...), make(api.Conf, 2), false},

		{"39 rules", one, api.Conf{many(39)}, true},
		{"40 rules", one, api.Conf{many(40)}, true},
		{"41 rules", one, api.Conf{many(41)}, false},
		{"40 rules of each", network(2, 2), api.Conf{many(40), many(40)}, true},
		{"41 rules of the last", network(2, 2), api.Conf{many(40), many(41)}, false},
		{"40 rules, the last one alike", one, api.Conf{append(many(39), drop(0, 24, -1, 0))}, false},

		{"In at the last port", one, api.Conf{{drop(0, 0, 1, 0)}}, true},
		{"In at Ports", one, api.Conf{{drop(0, 0, 2, 0)}}, false},
		{"In beyond Ports", one, api.Conf{{drop(0, 0, 7, 0)}}, false},
		{"In at port 0 of one port", network(1, 1), api.Conf{{drop(0, 0, 0, 0)}}, true},
		{"In at port 1 of one port", network(1, 1), api.Conf{{drop(0, 0, 1, 0)}}, false},
		{"In any port of one port", network(1, 1), api.Conf{{drop(0, 0, -1, 0)}}, true},
		{"In at port 7 of eight", network(1, 8), api.Conf{{drop(0, 0, 7, 0)}}, true},
		{"In at port 8 of eight: no rule", network(1, 8), api.Conf{{drop(0, 0, 8, 0)}}, false},
		{"In below any port", network(1, 8), api.Conf{{drop(0, 0, -2, 0)}}, false},
		{"In as low as it comes", network(1, 8), api.Conf{{drop(0, 0, math.MinInt, 0)}}, false},
		{"In as great as it comes", network(1, 8), api.Conf{{drop(0, 0, math.MaxInt, 0)}}, false},

		{"forward to port 0 of one port", network(1, 1), api.Conf{{forward(0, 0, -1, 0, 0)}}, true},
		{"forward to port 1 of one port", network(1, 1), api.Conf{{forward(0, 0, -1, 0, 1)}}, false},
		{"forward to port 7 of eight", network(1, 8), api.Conf{{forward(0, 0, -1, 0, 7)}}, true},
		{"forward to port 7 of seven", network(1, 7), api.Conf{{forward(0, 0, -1, 0, 7)}}, false},
		{"forward to port 8 of eight: no rule", network(1, 8), api.Conf{{forward(0, 0, -1, 0, 8)}}, false},
		{"forward to a port below 0", network(1, 8), api.Conf{{forward(0, 0, -1, 0, -1)}}, false},
		{"forward back to In", one, api.Conf{{forward(0, 0, 1, 0, 1)}}, true},
		{"drop", network(1, 1), api.Conf{{drop(0, 0, -1, 0)}}, true},
		{"drop with a port: no rule", one, api.Conf{{{In: -1, Act: api.Action{Port: 1}}}}, false},
		{"drop with a port beyond Ports: no rule", one, api.Conf{{{In: -1, Act: api.Action{Port: 2}}}}, false},
		{"a kind that is none", one, api.Conf{{{In: -1, Act: api.Action{Kind: api.Acts}}}}, false},
		{"a kind below 0", one, api.Conf{{{In: -1, Act: api.Action{Kind: -1}}}}, false},

		{"bits behind the length", one, api.Conf{{forward(ten+1, 8, -1, 0, 0)}}, false},
		{"the same bits, within the length", one, api.Conf{{forward(ten+1, 32, -1, 0, 0)}}, true},
		{"a length beyond 32", one, api.Conf{{drop(0, 33, -1, 0)}}, false},
		{"a length below 0", one, api.Conf{{drop(0, -1, -1, 0)}}, false},
		{"an address beyond", one, api.Conf{{drop(1<<32, 0, -1, 0)}}, false},
		{"a priority of 255", one, api.Conf{{drop(0, 0, -1, 255)}}, true},
		{"a priority of 256", one, api.Conf{{drop(0, 0, -1, 256)}}, false},
		{"a priority below 0", one, api.Conf{{drop(0, 0, -1, -1)}}, false},
		{"the wrong one last, of the last list", two, api.Conf{{a, b}, {a, b, drop(0, 0, 2, 0)}}, false},
		{"the wrong one first, of the first list", two, api.Conf{{drop(0, 0, 2, 0), a, b}, {a, b}}, false},
		{"the wrong one between", two, api.Conf{{a, drop(0, 0, 2, 0), b}, {a, b}}, false},

		{"the same one twice", one, api.Conf{{a, a}}, false},
		{"the same one twice, not side by side", one, api.Conf{{a, b, a}}, false},
		{"the same one twice, of the second switch", two, api.Conf{{a, b}, {b, a, b}}, false},
		{"alike, to other ports", one, api.Conf{{a, forward(0, 0, -1, 0, 0)}}, false},
		{"alike, one drops", one, api.Conf{{a, drop(0, 0, -1, 0)}}, false},
		{"alike at two switches", two, api.Conf{{a}, {a}}, true},
		{"of other addresses", one, api.Conf{{drop(ten, 8, -1, 0), drop(ten+1<<24, 8, -1, 0)}}, true},
		{"of other lengths", one, api.Conf{{drop(ten, 8, -1, 0), drop(ten, 9, -1, 0)}}, true},
		{"from other ports", one, api.Conf{{drop(ten, 8, 0, 0), drop(ten, 8, 1, 0)}}, true},
		{"from a port, and from any", one, api.Conf{{drop(ten, 8, 0, 0), drop(ten, 8, -1, 0)}}, true},
		{"of other priorities", one, api.Conf{{drop(ten, 8, 0, 0), drop(ten, 8, 0, 1)}}, true},
		{"of In and Prio exchanged", one, api.Conf{{drop(ten, 8, 0, 1), drop(ten, 8, 1, 0)}}, true},
	} {
		if got := May(x.t, x.c); got != x.want {
			t.Errorf("%s: May(%+v, %+v) = %v, want %v", x.name, x.t, x.c, got, x.want)
		}
		if want := mayModel(x.t, x.c); want != x.want {
			t.Errorf("%s: the model errs: %v, want %v", x.name, want, x.want)
		}
	}
}

// TestMayAtPorts: each In and each Port that a rule may have, at each number of ports.
func TestMayAtPorts(t *testing.T) {
	for ports := -1; ports <= 10; ports++ {
		for n := -3; n <= 11; n++ {
			net := network(1, ports)
			is := ports >= 1 && ports <= 8
			if got, want := May(net, api.Conf{{drop(0, 0, n, 0)}}), is && n >= -1 && n < ports; got != want {
				t.Errorf("%d ports, from %d: %v, want %v", ports, n, got, want)
			}
			if got, want := May(net, api.Conf{{forward(0, 0, -1, 0, n)}}), is && n >= 0 && n < ports; got != want {
				t.Errorf("%d ports, to %d: %v, want %v", ports, n, got, want)
			}
			if got, want := May(net, api.Conf{{{In: -1, Act: api.Action{Port: n}}}}), is && n == 0; got != want {
				t.Errorf("%d ports, a drop with the port %d: %v, want %v", ports, n, got, want)
			}
		}
	}
}

// TestMayAtLists: each number of lists, at each number of switches.
func TestMayAtLists(t *testing.T) {
	for switches := -1; switches <= 9; switches++ {
		for n := range 10 {
			got := May(network(switches, 1), make(api.Conf, n))
			if want := n == switches && n >= 1 && n <= 6; got != want {
				t.Errorf("%d switches, %d lists: %v, want %v", switches, n, got, want)
			}
		}
	}
}

// TestMayOneNumber: two rules that differ in one number only may both be, but if that is what they do.
func TestMayOneNumber(t *testing.T) {
	net := network(1, 8)
	base := forward(ten, 16, 2, 9, 1)
	for i := range 6 {
		r := base
		*[]*int{&r.P.Addr, &r.P.Len, &r.In, &r.Prio, &r.Act.Port, &r.Act.Kind}[i] += 1 << 16 >> min(i*16, 16)
		if i == 5 {
			r.Act = api.Action{}
		}
		if !May(net, api.Conf{{r}}) {
			t.Fatalf("%+v may not be by itself", r)
		}
		if got, want := May(net, api.Conf{{base, r}}), i < 4; got != want {
			t.Errorf("with %+v: %v, want %v", r, got, want)
		}
	}
}

func TestMayOfMany(t *testing.T) {
	c := counter(1)
	const rounds = 20000
	good := 0
	for range rounds {
		switches, ports := c.next(6)+1, c.next(8)+1
		net := c.topo(switches, ports)
		f := c.good(switches, ports, c.one(1, 3, 8))
		if !May(net, f) {
			t.Fatalf("May(%+v, %+v) is false", net, f)
		}
		switch l := c.next(switches); c.next(5) {
		case 0:
			net.Ports = c.next(10)
		case 1:
			net.Switches = c.next(8)
		case 2:
			f = f[:l]
		case 3:
			f[l] = append(f[l], c.rule(ports))
		default:
			f[l] = append(f[l], c.turned(c.rule(ports)))
		}
		got, want := May(net, f), mayModel(net, f)
		if got != want {
			t.Fatalf("May(%+v, %+v) = %v, want %v", net, f, got, want)
		}
		if got {
			good++
		}
	}
	if good < rounds/10 || good > rounds*9/10 {
		t.Errorf("of %d turned ones %d may be: too few or too many to tell by", rounds, good)
	}
}

// P12.2: Most, At, Same

func TestMost(t *testing.T) {
	a := drop(0, 0, -1, 0)
	for _, x := range []struct {
		c    api.Conf
		want int
	}{
		{nil, 0}, {api.Conf{}, 0}, {api.Conf{nil}, 0}, {api.Conf{nil, {}, nil}, 0},
		{api.Conf{{a}}, 1}, {api.Conf{{a, a}}, 2}, {api.Conf{{a}, {a}}, 1},
		{api.Conf{{a, a}, {a}}, 2}, {api.Conf{{a}, {a, a}}, 2}, {api.Conf{{a}, {a, a, a}, {a, a}}, 3}, {api.Conf{nil, {a}, nil}, 1},
		{api.Conf{many(40), many(39)}, 40}, {api.Conf{many(41)}, 41}, {api.Conf{nil, many(1000), nil, nil, nil, nil, nil, many(999)}, 1000},
		{api.Conf{{{In: 99}, {In: -99}}}, 2},
	} {
		if got := Most(x.c); got != x.want {
			t.Errorf("Most(%+v) = %d, want %d", x.c, got, x.want)
		}
	}
}

func TestAt(t *testing.T) {
	a, b, wrong := drop(0, 0, -1, 0), forward(ten, 8, 1, 0, 0), api.Rule{In: 99}
	c := api.Conf{{a, b}, {a}, nil, {b, wrong, a, b}, {}}
	for _, x := range []struct {
		c    api.Conf
		sw   int
		want []api.Rule
	}{
		{c, 0, list(a, b)}, {c, 1, list(a)}, {c, 2, nil}, {c, 3, list(b, wrong, a, b)}, {c, 4, nil},
		{c, 5, nil}, {c, 6, nil}, {c, -1, nil}, {c, -2, nil}, {c, math.MaxInt, nil}, {c, math.MinInt, nil},
		{nil, 0, nil}, {nil, -1, nil}, {nil, 1, nil}, {api.Conf{}, 0, nil}, {api.Conf{{a}}, 0, list(a)}, {api.Conf{{a}}, 1, nil}, {api.Conf{{a}}, -1, nil},
	} {
		if got := At(x.c, x.sw); !slices.Equal(got, x.want) {
			t.Errorf("At(%+v, %d) = %+v, want %+v", x.c, x.sw, got, x.want)
		}
	}
}

func TestSame(t *testing.T) {
	a, b, d := drop(0, 0, -1, 0), forward(ten, 8, 1, 0, 0), forward(ten|1<<16, 16, 1, 0, 0)
	other := func(change func(*api.Rule)) api.Rule { r := b; change(&r); return r }
	for _, x := range []struct {
		name string
		a, b api.Conf
		want bool
	}{
		{"none and none", nil, nil, true},
		{"none, and no list", nil, api.Conf{}, true},
		{"none, and one list", nil, api.Conf{nil}, false},
		{"lists without rules", api.Conf{nil, {}}, api.Conf{{}, nil}, true},
		{"one list more, without rules", api.Conf{{a}}, api.Conf{{a}, nil}, false},
		{"one list more, in front", api.Conf{{a}}, api.Conf{nil, {a}}, false},
		{"one rule", api.Conf{{a}}, api.Conf{{a}}, true},
		{"one rule, and none", api.Conf{{a}}, api.Conf{nil}, false},
		{"one rule, and another", api.Conf{{a}}, api.Conf{{b}}, false},
		{"two in order", api.Conf{{a, b}}, api.Conf{{a, b}}, true},
		{"two in the other order", api.Conf{{a, b}}, api.Conf{{b, a}}, true},
		{"three, turned round", api.Conf{{a, b, d}}, api.Conf{{b, d, a}}, true},
		{"three, the other way", api.Conf{{a, b, d}}, api.Conf{{d, b, a}}, true},
		{"lists in another order", api.Conf{{a}, {b}}, api.Conf{{b}, {a}}, false},
		{"a rule at another switch", api.Conf{{a, b}, {d}}, api.Conf{{a}, {b, d}}, false},
		{"both lists in another order each", api.Conf{{a, b}, {b, d}}, api.Conf{{b, a}, {d, b}}, true},
		{"the last list another", api.Conf{{a, b}, {b, d}}, api.Conf{{b, a}, {d, a}}, false},
		{"one twice, and one", api.Conf{{a, a}}, api.Conf{{a}}, false},
		{"one twice, and twice", api.Conf{{a, a}}, api.Conf{{a, a}}, true},
		{"one twice, and the other twice", api.Conf{{a, a, b}}, api.Conf{{a, b, b}}, false},
		{"one twice, in another order", api.Conf{{a, b, a}}, api.Conf{{b, a, a}}, true},
		{"one more", api.Conf{{a, b}}, api.Conf{{a, b, d}}, false},
		{"alike that do otherwise, in two orders", api.Conf{{a, forward(0, 0, -1, 0, 1), forward(0, 0, -1, 0, 0)}}, api.Conf{{forward(0, 0, -1, 0, 0), a, forward(0, 0, -1, 0, 1)}}, true},
		{"of two addresses, in two orders", api.Conf{{drop(ten, 8, -1, 0), drop(0, 8, -1, 0)}}, api.Conf{{drop(0, 8, -1, 0), drop(ten, 8, -1, 0)}}, true},
		{"another address", api.Conf{{b}}, api.Conf{{other(func(r *api.Rule) { r.P.Addr = 11 << 24 })}}, false},
		{"other bits behind the length", api.Conf{{b}}, api.Conf{{other(func(r *api.Rule) { r.P.Addr++ })}}, false},
		{"another length", api.Conf{{b}}, api.Conf{{other(func(r *api.Rule) { r.P.Len++ })}}, false},
		{"another In", api.Conf{{b}}, api.Conf{{other(func(r *api.Rule) { r.In = 0 })}}, false},
		{"another priority", api.Conf{{b}}, api.Conf{{other(func(r *api.Rule) { r.Prio = 1 })}}, false},
		{"another kind", api.Conf{{b}}, api.Conf{{other(func(r *api.Rule) { r.Act.Kind = api.Drop })}}, false},
		{"another port", api.Conf{{b}}, api.Conf{{other(func(r *api.Rule) { r.Act.Port = 1 })}}, false},
		{"numbers as great as they come", api.Conf{{forward(math.MaxInt, math.MinInt, math.MaxInt, math.MinInt, 0), {In: math.MinInt}}}, api.Conf{{{In: math.MinInt}, forward(math.MaxInt, math.MinInt, math.MaxInt, math.MinInt, 0)}}, true},
		{"numbers as great as they come, and one less", api.Conf{{{In: math.MinInt}}}, api.Conf{{{In: math.MinInt + 1}}}, false},
		{"41 rules, turned round", api.Conf{many(41)}, api.Conf{append(many(41)[1:], many(41)[0])}, true},
	} {
		for range 2 {
			if got := Same(x.a, x.b); got != x.want {
				t.Errorf("%s: Same(%+v, %+v) = %v, want %v", x.name, x.a, x.b, got, x.want)
			}
			if want := sameModel(x.a, x.b); want != x.want {
				t.Errorf("%s: the model errs: %v, want %v", x.name, want, x.want)
			}
			x.a, x.b = x.b, x.a
		}
	}
}

func TestSameOfMany(t *testing.T) { // with rules alike, twice, and such as may not be
	c := counter(2)
	const rounds = 20000
	same := 0
	for range rounds {
		a := c.conf(c.next(4), 3, c.one(1, 3, 8))
		b := c.mixed(a)
		if len(b) > 0 {
			l := &b[c.next(len(b))]
			switch n := len(*l); {
			case n == 0 || c.next(6) == 0:
				*l = append(*l, c.rule(3))
			case c.next(5) == 0:
				*l = (*l)[1:]
			case c.next(2) == 0:
				(*l)[c.next(n)] = (*l)[c.next(n)] // one of them twice, another gone
			default:
				i := c.next(n)
				(*l)[i] = c.turned((*l)[i])
			}
		}
		got, want := Same(a, b), sameModel(a, b)
		if got != want || Same(b, a) != want {
			t.Fatalf("Same(%+v, %+v) = %v and %v, want %v", a, b, got, Same(b, a), want)
		}
		if got {
			same++
		}
		if !Same(a, a) || !Same(a, c.mixed(a)) || !Same(b, c.mixed(b)) {
			t.Fatalf("%+v or %+v is not the same in another order", a, b)
		}
		if got, want := Most(b), mostModel(b); got != want {
			t.Fatalf("Most(%+v) = %d, want %d", b, got, want)
		}
		for sw := -2; sw < len(b)+3; sw++ {
			if got := At(b, sw); !slices.Equal(got, atModel(b, sw)) {
				t.Fatalf("At(%+v, %d) = %+v", b, sw, got)
			}
		}
	}
	if same < rounds/20 || same > rounds/2 {
		t.Errorf("of %d pairs %d are the same: too few or too many to tell by", rounds, same)
	}
}

// P12.3

func TestSameMayBeOfTheSame(t *testing.T) {
	c := counter(3)
	may, not := 0, 0
	for range 5000 {
		switches, ports := c.next(3)+1, c.next(3)+1
		a := c.good(switches, ports, 4)
		if c.next(2) == 0 {
			a = c.conf(switches, ports, 8)
		}
		b := c.mixed(a)
		if !Same(a, b) {
			t.Fatalf("%+v, %+v are not the same", a, b)
		}
		for s := range 5 {
			for p := range 5 {
				net := network(s, p)
				if May(net, a) != May(net, b) || May(net, a) != mayModel(net, b) {
					t.Fatalf("of %+v may be %+v: %v, %+v: %v", net, a, May(net, a), b, May(net, b))
				}
				if May(net, a) {
					may++
				} else if s == switches && p == ports {
					not++
				}
			}
		}
	}
	if may < 1000 || not < 500 {
		t.Errorf("%d may be, %d may not: too few to tell by", may, not)
	}
}

// P1, R1, R3, R5

func TestMuch(t *testing.T) { // far more than may be: all calls end
	l := slices.Repeat(list(drop(0, 0, -1, 0), forward(ten, 8, 1, 0, 0)), 50000)
	c := api.Conf{nil, l}
	d := api.Conf{nil, slices.Clone(l)}
	slices.Reverse(d[1])
	if May(network(2, 2), c) || Most(c) != 100000 || len(At(c, 1)) != 100000 || !Same(c, d) {
		t.Errorf("May %v, Most %d, At %d, Same %v", May(network(2, 2), c), Most(c), len(At(c, 1)), Same(c, d))
	}
	wide := make(api.Conf, 100000)
	if May(network(100000, 2), wide) || Most(wide) != 0 || At(wide, 99999) != nil || !Same(wide, wide) || Same(wide, wide[1:]) {
		t.Error("of many lists")
	}
}

func TestWhatIsHandedInStays(t *testing.T) {
	c := counter(4)
	for range 1000 {
		switches, ports := c.next(4)+1, c.next(3)+1
		net := c.topo(switches, ports)
		f := c.conf(switches, ports, 5)
		lengths := make([]int, len(f))
		for i, l := range f { // something stands behind the end of each list
			lengths[i] = len(l)
			whole := append(slices.Clone(l), drop(1, 32, 0, 0), drop(2, 32, 0, 0))
			f[i] = whole[:len(l)]
		}
		whole := append(f, list(drop(3, 32, 0, 0)))
		f = whole[:len(f)]
		links, rules := slices.Clone(net.Links), copied(whole)
		May(net, f)
		Most(f)
		At(f, c.next(switches))
		Same(f, c.mixed(f))
		Same(c.mixed(f), f)
		if !slices.Equal(net.Links, links) || len(whole) != len(rules) {
			t.Fatal("changed: links or lists")
		}
		for i := range whole {
			if !slices.Equal(whole[i], rules[i]) {
				t.Fatalf("changed: %+v, was %+v", whole[i], rules[i])
			}
		}
		for i, n := range lengths {
			if behind := f[i][:n+2][n:]; behind[0] != drop(1, 32, 0, 0) || behind[1] != drop(2, 32, 0, 0) {
				t.Fatalf("changed behind the end: %+v", behind)
			}
		}
	}
}

func TestWhatIsAnsweredIsOwn(t *testing.T) {
	a, b := drop(0, 0, -1, 0), forward(ten, 8, 1, 0, 0)
	whole := list(a, b, a)
	c := api.Conf{whole[:2]}
	first := At(c, 0)
	first[0] = b
	_ = append(first, b)
	if !slices.Equal(c[0], list(a, b)) || whole[2] != a {
		t.Errorf("a change of what was answered changed what was handed in: %+v", whole)
	}
	second := At(c, 0)
	if !slices.Equal(second, list(a, b)) {
		t.Errorf("asked again: %+v", second)
	}
	c[0][0] = b
	if !slices.Equal(second, list(a, b)) {
		t.Errorf("after a change of what was handed in: %+v", second)
	}
}

func TestWhatIsAnsweredOfEmptyIsOwn(t *testing.T) {
	a, b := drop(0, 0, -1, 0), forward(ten, 8, 1, 0, 0)
	whole := list(a, a)
	_ = append(At(api.Conf{whole[:0]}, 0), b)
	if whole[0] != a || whole[1] != a {
		t.Errorf("what stands behind an empty list was written over: %+v", whole)
	}
}

func TestAskedInAnyOrder(t *testing.T) { // no answer hangs on what was asked before
	net := network(1, 2)
	good, bad := api.Conf{many(40)}, api.Conf{append(many(39), many(1)...)}
	for range 100 {
		if !May(net, good) || May(net, bad) || !Same(good, good) || Same(good, bad) {
			t.Fatal("another answer")
		}
	}
}
