package path

import (
	"math"
	"slices"
	"testing"

	"wayfinder/api"
)

// The model that the calls are held against throws out, of the rules that fit, all that have not the greatest length, then priority, then In; it goes through the links one by one; and it reckons the TTL of each hop of a walk from the hop's number. It asks none of the packages that path stands on.

func fitsModel(r api.Rule, in, dst int) bool {
	p := r.P
	if p.Len < 0 || p.Len > 32 || p.Addr < 0 || p.Addr >= 1<<32 {
		return false
	}
	size := 1 << (32 - p.Len)
	return p.Addr%size == 0 && p.Addr/size == int(uint32(dst))/size && (r.In == -1 || r.In == in)
}

// greatest are those of rules of which a number is the greatest.
func greatest(l []api.Rule, number func(api.Rule) int) []api.Rule {
	most := math.MinInt
	for _, r := range l {
		most = max(most, number(r))
	}
	return slices.DeleteFunc(l, func(r api.Rule) bool { return number(r) < most })
}

// countsModel is at most one rule.
func countsModel(c api.Conf, f api.Fly) []api.Rule {
	var l []api.Rule
	for i, rules := range c {
		for _, r := range rules {
			if i == f.Switch && fitsModel(r, f.In, f.P.Dst) {
				l = append(l, r)
			}
		}
	}
	l = greatest(l, func(r api.Rule) int { return r.P.Len })
	l = greatest(l, func(r api.Rule) int { return r.Prio })
	l = greatest(l, func(r api.Rule) int { return r.In })
	return l[:min(len(l), 1)]
}

func farModel(t api.Topo, sw, port int) (int, int, bool) {
	if sw < 0 || sw >= t.Switches || port < 0 || port >= t.Ports {
		return 0, 0, false
	}
	for _, k := range t.Links {
		if k.A == sw && k.PA == port {
			return k.B, k.PB, true
		}
		if k.B == sw && k.PB == port {
			return k.A, k.PA, true
		}
	}
	return 0, 0, false
}

func becomesModel(t api.Topo, c api.Conf, f api.Fly) (what, out int) {
	if f.P.TTL <= 0 {
		return 5, 0
	}
	l := countsModel(c, f)
	if len(l) == 0 {
		return 3, 0
	}
	if l[0].Act.Kind != 1 {
		return 2, 0
	}
	if _, _, is := farModel(t, f.Switch, l[0].Act.Port); is {
		return 0, l[0].Act.Port
	}
	return 1, l[0].Act.Port
}

func stepModel(t api.Topo, c api.Conf, f api.Fly) (api.Hop, api.Fly) {
	what, out := becomesModel(t, c, f)
	h := api.Hop{Tick: 0, Id: f.P.Id, Switch: f.Switch, In: f.In, Tag: f.P.Tag, What: what, Out: out}
	if what != 0 {
		return h, api.Fly{}
	}
	sw, in, _ := farModel(t, f.Switch, out)
	p := api.Packet{Id: f.P.Id, Src: f.P.Src, Dst: f.P.Dst, TTL: f.P.TTL - 1, Tag: f.P.Tag}
	return h, api.Fly{P: p, Switch: sw, In: in}
}

func walkModel(t api.Topo, c api.Conf, f api.Fly) []api.Hop {
	ttl := f.P.TTL
	if ttl > 16 {
		ttl = 16
	}
	var l []api.Hop
	for n := 0; n < 17; n++ {
		f.P.TTL = ttl - n
		h, next := stepModel(t, c, f)
		l = append(l, h)
		if h.What != 0 {
			break
		}
		f.Switch, f.In = next.Switch, next.In
	}
	return l
}

const (
	ten  = 10 << 24
	addr = ten | 1<<16 | 2<<8 | 3 // 10.1.2.3
)

func forward(addr, n, in, prio, port int) api.Rule {
	return api.Rule{P: api.Prefix{Addr: addr, Len: n}, In: in, Prio: prio, Act: api.Action{Kind: api.Forward, Port: port}}
}

func drop(addr, n, in, prio int) api.Rule {
	return api.Rule{P: api.Prefix{Addr: addr, Len: n}, In: in, Prio: prio}
}

// to is the rule that sends all to a port.
func to(port int) api.Rule { return forward(0, 0, -1, 0, port) }

func list(l ...api.Rule) []api.Rule { return l }

func link(a, pa, b, pb int) api.Link { return api.Link{A: a, PA: pa, B: b, PB: pb} }

func network(switches, ports int, l ...api.Link) api.Topo {
	return api.Topo{Switches: switches, Ports: ports, Links: l}
}

// two is the chapter's example: two switches, 0's 1 joined to 1's 0.
func two() api.Topo { return network(2, 2, link(0, 1, 1, 0)) }

// row is so many switches of two ports, the 1 of each joined to the 0 of the next one.
func row(n int) api.Topo {
	t := network(n, 2)
	for i := range n - 1 {
		t.Links = append(t.Links, link(i, 1, i+1, 0))
	}
	return t
}

// ring is a row whose last 1 is joined to the first 0.
func ring(n int) api.Topo {
	t := row(n)
	t.Links = append(t.Links, link(n-1, 1, 0, 0))
	return t
}

// each is the same rules at so many switches.
func each(n int, l ...api.Rule) api.Conf {
	var c api.Conf
	for range n {
		c = append(c, slices.Clone(l))
	}
	return c
}

func fly(sw, in, ttl int) api.Fly {
	return api.Fly{P: api.Packet{Id: 7, Src: 9, Dst: addr, TTL: ttl, Tag: 3}, Switch: sw, In: in}
}

// dst is a packet to an address, at switch 0's port 0.
func dst(addr int) api.Fly { return api.Fly{P: api.Packet{Id: 7, Dst: addr, TTL: 5, Tag: 3}} }

// counter makes numbers from a number, the same ones each time.
type counter uint64

func (c *counter) next(below int) int {
	*c = *c*6364136223846793005 + 1442695040888963407
	return int(uint64(*c)>>31) % below
}

func (c *counter) one(l ...int) int { return l[c.next(len(l))] }

// wide is a number that hardly anything may be.
func (c *counter) wide() int {
	return c.one(math.MinInt, math.MinInt+1, math.MaxInt-1, math.MaxInt, -1, -2, 8, 9, 33, 40, 256, 1<<32, 1<<40)
}

// good is a topology that may be, with as many links as asked for, or as many as its ports have room for.
func (c *counter) good(switches, ports, links int) api.Topo {
	t := network(switches, ports)
	ends := make([]int, switches*ports)
	for i := range ends {
		j := c.next(i + 1)
		ends[i], ends[j] = ends[j], i
	}
	for i := 0; i+1 < len(ends) && len(t.Links) < links; i += 2 {
		a, b := ends[i], ends[i+1]
		t.Links = append(t.Links, link(a/ports, a%ports, b/ports, b%ports))
	}
	return t
}

// rule is one of few places, so that many fit, and many are alike; most are a Forward.
func (c *counter) rule(ports int) api.Rule {
	p := [...]api.Prefix{{}, {}, {Addr: ten, Len: 8}, {Addr: ten | 1<<16, Len: 16}, {Addr: addr, Len: 32}}[c.next(5)]
	r := drop(p.Addr, p.Len, max(c.next(2*ports)-ports, -1), c.next(3))
	if c.next(8) > 0 {
		r.Act = api.Action{Kind: api.Forward, Port: c.next(ports)}
	}
	return r
}

func (c *counter) conf(switches, ports, most int) api.Conf {
	var f api.Conf
	for range switches {
		var l []api.Rule
		for range c.next(most + 1) {
			l = append(l, c.rule(ports))
		}
		f = append(f, l)
	}
	return f
}

func (c *counter) fly(switches, ports int) api.Fly {
	p := api.Packet{Id: c.next(100), Src: c.next(100), Dst: c.one(addr, addr+1, ten, 0, 1<<32-1, addr-1<<32), TTL: c.one(0, 1, 2, 3, 8, 15, 16, 17, 18, 99), Tag: c.next(5)}
	return api.Fly{P: p, Switch: c.next(switches), In: c.next(ports)}
}

// turn makes a number of any of them another one.
func (c *counter) turn(t *api.Topo, f api.Conf, y *api.Fly) {
	l := []*int{&t.Switches, &t.Ports, &y.Switch, &y.In, &y.P.Id, &y.P.Src, &y.P.Dst, &y.P.TTL, &y.P.Tag}
	for i := range t.Links {
		k := &t.Links[i]
		l = append(l, &k.A, &k.PA, &k.B, &k.PB)
	}
	for _, rules := range f {
		for i := range rules {
			r := &rules[i]
			l = append(l, &r.P.Addr, &r.P.Len, &r.In, &r.Prio, &r.Act.Kind, &r.Act.Port)
		}
	}
	*l[c.next(len(l))] = c.one(c.wide(), c.next(3), c.next(9))
}

// hold holds both calls against the model, and what they say against each other.
func hold(tt *testing.T, t api.Topo, c api.Conf, f api.Fly) {
	tt.Helper()
	h, next := Step(t, c, f)
	if wh, wn := stepModel(t, c, f); h != wh || next != wn {
		tt.Fatalf("Step(%+v, %+v, %+v) = %+v, %+v, want %+v, %+v", t, c, f, h, next, wh, wn)
	}
	l := Walk(t, c, f)
	if want := walkModel(t, c, f); !slices.Equal(l, want) {
		tt.Fatalf("Walk(%+v, %+v, %+v) = %+v, want %+v", t, c, f, l, want)
	}
	if l[0] != h {
		tt.Fatalf("the first hop of %+v, %+v, %+v is %+v, Step's is %+v", t, c, f, l[0], h)
	}
	holdEnd(tt, l, f.P.TTL)
}

// holdEnd holds a walk against P13.3: Went, Went, .., and something else.
func holdEnd(tt *testing.T, l []api.Hop, ttl int) {
	tt.Helper()
	if len(l) < 1 || len(l) > 17 || len(l)-1 > max(ttl, 0) {
		tt.Fatalf("%d hops of a TTL of %d", len(l), ttl)
	}
	for i, h := range l {
		if went := h.What == api.Went; went != (i < len(l)-1) {
			tt.Fatalf("hop %d of %d is %+v", i, len(l), h)
		}
	}
}

// P13.1: Step

func TestStepWhole(t *testing.T) { // each part of a hop, and of where it goes
	p := api.Packet{Id: 4, Src: 5, Dst: addr, TTL: 6, Tag: 7}
	gone := p
	gone.TTL = 5
	dead := p
	dead.TTL = 0
	net := network(3, 8, link(2, 3, 1, 6))
	for _, x := range []struct {
		name string
		l    []api.Rule
		p    api.Packet
		hop  api.Hop
		next api.Fly
	}{
		{"Went", list(to(3)), p, api.Hop{Tick: 0, Id: 4, Switch: 2, In: 5, Tag: 7, What: 0, Out: 3}, api.Fly{P: gone, Switch: 1, In: 6}},
		{"Delivered", list(to(4)), p, api.Hop{Tick: 0, Id: 4, Switch: 2, In: 5, Tag: 7, What: 1, Out: 4}, api.Fly{}},
		{"ByRule", list(drop(0, 0, -1, 0)), p, api.Hop{Tick: 0, Id: 4, Switch: 2, In: 5, Tag: 7, What: 2, Out: 0}, api.Fly{}},
		{"NoRule", nil, p, api.Hop{Tick: 0, Id: 4, Switch: 2, In: 5, Tag: 7, What: 3, Out: 0}, api.Fly{}},
		{"NoTTL", list(to(3)), dead, api.Hop{Tick: 0, Id: 4, Switch: 2, In: 5, Tag: 7, What: 5, Out: 0}, api.Fly{}},
	} {
		h, next := Step(net, api.Conf{nil, nil, x.l}, api.Fly{P: x.p, Switch: 2, In: 5})
		if h != x.hop || next != x.next {
			t.Errorf("%s: %+v, %+v, want %+v, %+v", x.name, h, next, x.hop, x.next)
		}
	}
}

func TestStep(t *testing.T) {
	type place struct{ sw, in int }
	var none place
	wide := network(1, 8)
	few := list(forward(ten, 8, -1, 0, 1), forward(ten|1<<16, 16, 2, 0, 2))
	twice := network(3, 2, link(0, 1, 1, 0), link(0, 1, 2, 0))
	off := network(2, 2, link(0, 1, 5, 6), link(1, 1, -3, -4), link(1, 0, math.MaxInt, math.MinInt))
	for _, x := range []struct {
		name      string
		t         api.Topo
		c         api.Conf
		f         api.Fly
		what, out int
		next      place
	}{
		{"the chapter's example, at 0", two(), each(2, to(1)), fly(0, 0, 5), api.Went, 1, place{1, 0}},
		{"the chapter's example, at 1", two(), each(2, to(1)), fly(1, 0, 4), api.Delivered, 1, none},
		{"from B to A", two(), each(2, to(0)), fly(1, 1, 4), api.Went, 0, place{0, 1}},
		{"noughts", api.Topo{}, nil, api.Fly{}, api.NoTTL, 0, none},
		{"noughts, but a TTL", api.Topo{}, nil, api.Fly{P: api.Packet{TTL: 1}}, api.NoRule, 0, none},
		{"of no topology", api.Topo{}, each(1, to(1)), fly(0, 0, 5), api.Delivered, 1, none},
		{"back to In, that leads out", two(), each(2, to(0)), fly(0, 0, 5), api.Delivered, 0, none},
		{"back to In, that is joined", two(), each(2, to(1)), fly(0, 1, 5), api.Went, 1, place{1, 0}},
		{"to itself, at another port", network(1, 2, link(0, 1, 0, 0)), each(1, to(1)), fly(0, 0, 5), api.Went, 1, place{0, 0}},
		{"to itself, at the same port", network(1, 2, link(0, 1, 0, 1)), each(1, to(1)), fly(0, 0, 5), api.Went, 1, place{0, 1}},

		{"a TTL of 1", two(), each(2, to(1)), fly(0, 0, 1), api.Went, 1, place{1, 0}},
		{"a TTL of 1, out of the net", two(), each(2, to(1)), fly(1, 0, 1), api.Delivered, 1, none},
		{"a TTL of 0", two(), each(2, to(1)), fly(0, 0, 0), api.NoTTL, 0, none},
		{"a TTL of 0, out of the net", two(), each(2, to(1)), fly(1, 0, 0), api.NoTTL, 0, none},
		{"a TTL of 0, no rule", two(), nil, fly(0, 0, 0), api.NoTTL, 0, none},
		{"a TTL of 0, a Drop", two(), each(2, drop(0, 0, -1, 0)), fly(0, 0, 0), api.NoTTL, 0, none},
		{"a TTL of 0, no switch", two(), each(2, to(1)), fly(9, 9, 0), api.NoTTL, 0, none},
		{"a TTL below 0", two(), each(2, to(1)), fly(0, 0, -1), api.NoTTL, 0, none},
		{"a TTL as low as it comes", two(), each(2, to(1)), fly(0, 0, math.MinInt), api.NoTTL, 0, none},
		{"a TTL of 16", two(), each(2, to(1)), fly(0, 0, 16), api.Went, 1, place{1, 0}},
		{"a TTL of 17", two(), each(2, to(1)), fly(0, 0, 17), api.Went, 1, place{1, 0}},
		{"a TTL as great as it comes", two(), each(2, to(1)), fly(0, 0, math.MaxInt), api.Went, 1, place{1, 0}},

		{"no configuration", two(), nil, fly(0, 0, 5), api.NoRule, 0, none},
		{"no rules", two(), api.Conf{nil, {to(1)}}, fly(0, 0, 5), api.NoRule, 0, none},
		{"a list too few", two(), each(1, to(1)), fly(1, 0, 5), api.NoRule, 0, none},
		{"a list too many, at the one too many", two(), each(3, to(1)), fly(2, 0, 5), api.Delivered, 1, none},
		{"a switch that is none", two(), each(2, to(1)), fly(2, 0, 5), api.NoRule, 0, none},
		{"a switch below 0", two(), each(2, to(1)), fly(-1, 0, 5), api.NoRule, 0, none},
		{"a switch as great as it comes", two(), each(2, to(1)), fly(math.MaxInt, 0, 5), api.NoRule, 0, none},
		{"a switch as low as it comes", two(), each(2, to(1)), fly(math.MinInt, 0, 5), api.NoRule, 0, none},
		{"a port that is none", two(), each(2, to(1)), fly(0, 2, 5), api.Went, 1, place{1, 0}},
		{"a port that is none, of a rule from it", two(), each(2, forward(0, 0, 99, 0, 1)), fly(0, 99, 5), api.Went, 1, place{1, 0}},
		{"a port as great as it comes", two(), each(2, to(1)), fly(0, math.MaxInt, 5), api.Went, 1, place{1, 0}},
		{"a port below 0, no rule from it", two(), each(2, forward(0, 0, 0, 0, 1)), fly(0, -1, 5), api.NoRule, 0, none},
		{"a port as low as it comes, of a rule from it", two(), each(2, forward(0, 0, math.MinInt, 0, 1)), fly(0, math.MinInt, 5), api.Went, 1, place{1, 0}},

		{"a Drop", two(), each(2, drop(0, 0, -1, 0)), fly(0, 0, 5), api.ByRule, 0, none},
		{"a Drop with a port of a link", two(), api.Conf{{{In: -1, Act: api.Action{Port: 1}}}}, fly(0, 0, 5), api.ByRule, 0, none},
		{"a kind that is none", two(), api.Conf{{{In: -1, Act: api.Action{Kind: api.Acts, Port: 1}}}}, fly(0, 0, 5), api.ByRule, 0, none},
		{"a kind below 0", two(), api.Conf{{{In: -1, Act: api.Action{Kind: -1, Port: 1}}}}, fly(0, 0, 5), api.ByRule, 0, none},
		{"to a port that is none", two(), each(2, to(2)), fly(0, 0, 5), api.Delivered, 2, none},
		{"to a port below 0", two(), each(2, to(-1)), fly(0, 0, 5), api.Delivered, -1, none},
		{"to a port as great as it comes", two(), each(2, to(math.MaxInt)), fly(0, 0, 5), api.Delivered, math.MaxInt, none},
		{"to a port as low as it comes", two(), each(2, to(math.MinInt)), fly(0, 0, 5), api.Delivered, math.MinInt, none},

		{"longer, from its port", wide, api.Conf{few}, fly(0, 2, 5), api.Delivered, 2, none},
		{"shorter, from another port", wide, api.Conf{few}, fly(0, 1, 5), api.Delivered, 1, none},
		{"to another address", wide, api.Conf{few}, dst(11 << 24), api.NoRule, 0, none},
		{"a longer one that drops", wide, each(1, to(1), drop(ten, 8, -1, 0)), fly(0, 0, 5), api.ByRule, 0, none},
		{"a longer one that forwards", wide, each(1, drop(0, 0, -1, 0), forward(ten, 8, -1, 0, 3)), fly(0, 0, 5), api.Delivered, 3, none},
		{"a longer one of a lower priority", wide, each(1, forward(0, 0, 0, 255, 1), forward(ten, 8, -1, 0, 3)), fly(0, 0, 5), api.Delivered, 3, none},
		{"the greater priority", wide, each(1, forward(0, 0, -1, 4, 1), forward(0, 0, -1, 5, 3), forward(0, 0, -1, 3, 2)), fly(0, 0, 5), api.Delivered, 3, none},
		{"the greater priority, from any port", wide, each(1, forward(0, 0, 0, 4, 1), forward(0, 0, -1, 5, 3)), fly(0, 0, 5), api.Delivered, 3, none},
		{"from its port, ahead of from any", wide, each(1, forward(0, 0, -1, 4, 1), forward(0, 0, 0, 4, 3)), fly(0, 0, 5), api.Delivered, 3, none},
		{"from another port", wide, each(1, forward(0, 0, -1, 4, 1), forward(0, 0, 0, 4, 3)), fly(0, 1, 5), api.Delivered, 1, none},
		{"alike, the first one", wide, each(1, to(4), to(3), drop(0, 0, -1, 0)), fly(0, 0, 5), api.Delivered, 4, none},
		{"alike, the first one drops", wide, each(1, drop(0, 0, -1, 0), to(3)), fly(0, 0, 5), api.ByRule, 0, none},
		{"an address of all bits", wide, each(1, forward(1<<32-1, 32, -1, 0, 6)), dst(1<<32 - 1), api.Delivered, 6, none},
		{"an address below 0: its last 32 bits", wide, each(1, forward(1<<32-1, 32, -1, 0, 6)), dst(-1), api.Delivered, 6, none},
		{"an address beyond: its last 32 bits", wide, each(1, forward(addr, 32, -1, 0, 6)), dst(addr + 1<<32), api.Delivered, 6, none},
		{"an address as great as it comes", wide, each(1, forward(1<<32-1, 32, -1, 0, 6)), dst(math.MaxInt), api.Delivered, 6, none},
		{"a prefix that may not be", wide, each(1, forward(ten+1, 8, -1, 0, 1)), fly(0, 0, 5), api.NoRule, 0, none},
		{"a length beyond 32", wide, each(1, forward(addr, 33, -1, 0, 1), to(2)), fly(0, 0, 5), api.Delivered, 2, none},
		{"a length below 0", wide, each(1, forward(0, -1, -1, 0, 1)), fly(0, 0, 5), api.NoRule, 0, none},
		{"a priority as great as it comes", wide, each(1, forward(0, 0, -1, 255, 1), forward(0, 0, -1, math.MaxInt, 2)), fly(0, 0, 5), api.Delivered, 2, none},

		{"a port that is an end of two", twice, each(3, to(1)), fly(0, 0, 5), api.Went, 1, place{1, 0}},
		{"back from the second one", twice, each(3, to(0)), fly(2, 1, 5), api.Went, 0, place{0, 1}},
		{"to a switch that is none", off, each(2, to(1)), fly(0, 0, 5), api.Went, 1, place{5, 6}},
		{"to a switch below 0", off, each(2, to(1)), fly(1, 0, 5), api.Went, 1, place{-3, -4}},
		{"to a switch as great as it comes", off, each(2, to(0)), fly(1, 0, 5), api.Went, 0, place{math.MaxInt, math.MinInt}},
		{"from an end that is no port", off, each(6, to(6)), fly(5, 6, 5), api.Delivered, 6, none},
		{"no switches, but links", network(0, 2, link(0, 1, 1, 0)), each(2, to(1)), fly(0, 0, 5), api.Delivered, 1, none},
		{"no ports, but links", network(2, 0, link(0, 1, 1, 0)), each(2, to(1)), fly(0, 0, 5), api.Delivered, 1, none},
		{"seven switches", ring(7), each(7, to(1)), fly(6, 0, 5), api.Went, 1, place{0, 0}},
		{"as many switches and ports as they come", network(math.MaxInt, math.MaxInt, link(0, math.MaxInt-1, 1, 0)), each(1, to(math.MaxInt-1)), fly(0, 0, 5), api.Went, math.MaxInt - 1, place{1, 0}},
	} {
		hop := api.Hop{Id: x.f.P.Id, Switch: x.f.Switch, In: x.f.In, Tag: x.f.P.Tag, What: x.what, Out: x.out}
		var next api.Fly
		if x.what == api.Went {
			next = api.Fly{P: x.f.P, Switch: x.next.sw, In: x.next.in}
			next.P.TTL--
		}
		if h, n := Step(x.t, x.c, x.f); h != hop || n != next {
			t.Errorf("%s: %+v, %+v, want %+v, %+v", x.name, h, n, hop, next)
		}
		if h, n := stepModel(x.t, x.c, x.f); h != hop || n != next {
			t.Errorf("%s: the model errs: %+v, %+v, want %+v, %+v", x.name, h, n, hop, next)
		}
		hold(t, x.t, x.c, x.f)
	}
}

// TestStepNumbers: each number of a packet, as great and as low as it comes, stands in the hop, and goes with it.
func TestStepNumbers(t *testing.T) {
	for _, n := range []int{math.MinInt, math.MinInt + 1, -1, 0, 1, 4095, 4096, 65535, 1 << 32, math.MaxInt - 1, math.MaxInt} {
		for i := range 4 {
			f := fly(0, 0, 5)
			*[]*int{&f.P.Id, &f.P.Src, &f.P.Dst, &f.P.Tag}[i] = n
			next := api.Fly{P: f.P, Switch: 1, In: 0}
			next.P.TTL = 4
			h, got := Step(two(), each(2, to(1)), f)
			if want := (api.Hop{Id: f.P.Id, Tag: f.P.Tag, What: api.Went, Out: 1}); h != want || got != next {
				t.Errorf("with %d as number %d: %+v, %+v, want %+v, %+v", n, i, h, got, want, next)
			}
			hold(t, two(), each(2, to(1)), f)
		}
	}
}

// TestStepTTL: one less at each TTL, also at those that Walk does not count.
func TestStepTTL(t *testing.T) {
	for _, n := range []int{1, 2, 3, 15, 16, 17, 18, 99, 255, 256, 1 << 32, math.MaxInt - 1, math.MaxInt} {
		if h, next := Step(two(), each(2, to(1)), fly(0, 0, n)); h.What != api.Went || next.P.TTL != n-1 {
			t.Errorf("a TTL of %d: %+v, %+v", n, h, next)
		}
	}
	for _, n := range []int{0, -1, -2, -16, -1 << 32, math.MinInt + 1, math.MinInt} {
		if h, next := Step(two(), each(2, to(1)), fly(0, 0, n)); h.What != api.NoTTL || h.Out != 0 || next != (api.Fly{}) {
			t.Errorf("a TTL of %d: %+v, %+v", n, h, next)
		}
	}
}

// TestStepAllPorts: from each port of a small net to each port, those that are none too.
func TestStepAllPorts(t *testing.T) {
	net := network(3, 3, link(0, 1, 1, 0), link(1, 1, 2, 0), link(2, 2, 0, 2))
	far := map[[2]int][2]int{{0, 1}: {1, 0}, {1, 0}: {0, 1}, {1, 1}: {2, 0}, {2, 0}: {1, 1}, {2, 2}: {0, 2}, {0, 2}: {2, 2}}
	for sw := range 3 {
		for in := -2; in < 6; in++ {
			for out := -2; out < 6; out++ {
				f := fly(sw, in, 9)
				h, next := Step(net, each(3, to(out)), f)
				want := api.Hop{Id: 7, Switch: sw, In: in, Tag: 3, What: api.Delivered, Out: out}
				var goes api.Fly
				if end, is := far[[2]int{sw, out}]; is {
					want.What = api.Went
					goes = fly(end[0], end[1], 8)
				}
				if h != want || next != goes {
					t.Errorf("from %d's %d to %d: %+v, %+v, want %+v, %+v", sw, in, out, h, next, want, goes)
				}
			}
		}
	}
}

// P13.2: Walk

// trace is a walk's hops as switches and ports, and what became of the packet at last.
type trace struct {
	ways [][3]int // Switch, In, Out
	end  int
}

func traced(l []api.Hop) trace {
	var x trace
	for _, h := range l {
		x.ways = append(x.ways, [3]int{h.Switch, h.In, h.Out})
		x.end = h.What
	}
	return x
}

// ways are hops, as many numbers as it takes.
func ways(end int, n ...int) trace {
	x := trace{end: end}
	for i := 0; i < len(n); i += 3 {
		x.ways = append(x.ways, [3]int(n[i:i+3]))
	}
	return x
}

func TestWalk(t *testing.T) {
	back := api.Conf{{to(1)}, {to(0)}}
	byIn := api.Conf{{forward(0, 0, 0, 0, 1), forward(0, 0, 1, 0, 0)}, {to(0)}} // there and back, and out where it came in
	star := network(3, 3, link(0, 1, 1, 0), link(0, 2, 2, 0))
	byAddr := api.Conf{{forward(ten, 8, -1, 0, 1), forward(ten|1<<16, 16, -1, 0, 2)}, {to(2)}, {forward(addr, 32, 0, 0, 1)}}
	off := network(2, 2, link(0, 1, 5, 6))
	for _, x := range []struct {
		name string
		t    api.Topo
		c    api.Conf
		f    api.Fly
		want trace
	}{
		{"the chapter's example", two(), each(2, to(1)), fly(0, 0, 5), ways(api.Delivered, 0, 0, 1, 1, 0, 1)},
		{"the chapter's example, from 1 on", two(), each(2, to(1)), fly(1, 0, 5), ways(api.Delivered, 1, 0, 1)},
		{"the other way", two(), each(2, to(0)), fly(1, 1, 5), ways(api.Delivered, 1, 1, 0, 0, 1, 0)},
		{"noughts", api.Topo{}, nil, api.Fly{}, ways(api.NoTTL, 0, 0, 0)},
		{"one switch, out", network(1, 2), each(1, to(1)), fly(0, 0, 5), ways(api.Delivered, 0, 0, 1)},
		{"one switch, no rule", network(1, 2), nil, fly(0, 0, 5), ways(api.NoRule, 0, 0, 0)},
		{"one switch, a Drop", network(1, 2), each(1, drop(0, 0, -1, 0)), fly(0, 0, 5), ways(api.ByRule, 0, 0, 0)},
		{"one switch, no TTL", network(1, 2), each(1, to(1)), fly(0, 0, 0), ways(api.NoTTL, 0, 0, 0)},
		{"one switch, a TTL below 0", network(1, 2), each(1, to(1)), fly(0, 0, -1), ways(api.NoTTL, 0, 0, 0)},
		{"one switch, a TTL as low as it comes", network(1, 2), each(1, to(1)), fly(0, 0, math.MinInt), ways(api.NoTTL, 0, 0, 0)},

		{"no rule at the second one", two(), api.Conf{{to(1)}, nil}, fly(0, 0, 5), ways(api.NoRule, 0, 0, 1, 1, 0, 0)},
		{"a list too few", two(), each(1, to(1)), fly(0, 0, 5), ways(api.NoRule, 0, 0, 1, 1, 0, 0)},
		{"a Drop at the second one", two(), api.Conf{{to(1)}, {drop(0, 0, -1, 0)}}, fly(0, 0, 5), ways(api.ByRule, 0, 0, 1, 1, 0, 0)},
		{"no TTL at the second one", two(), each(2, to(1)), fly(0, 0, 1), ways(api.NoTTL, 0, 0, 1, 1, 0, 0)},
		{"just enough TTL for the second one", two(), each(2, to(1)), fly(0, 0, 2), ways(api.Delivered, 0, 0, 1, 1, 0, 1)},
		{"to a port that is none at the second one", two(), api.Conf{{to(1)}, {to(99)}}, fly(0, 0, 5), ways(api.Delivered, 0, 0, 1, 1, 0, 99)},
		{"a switch that is none", two(), each(2, to(1)), fly(2, 0, 5), ways(api.NoRule, 2, 0, 0)},
		{"numbers as great as they come", two(), each(2, to(1)), fly(math.MaxInt, math.MaxInt, math.MaxInt), ways(api.NoRule, math.MaxInt, math.MaxInt, 0)},
		{"a port that is none", two(), each(2, to(1)), fly(0, -5, 5), ways(api.Delivered, 0, -5, 1, 1, 0, 1)},
		{"on to a switch that is none", off, each(2, to(1)), fly(0, 0, 5), ways(api.NoRule, 0, 0, 1, 5, 6, 0)},
		{"on to a switch that is none, but has rules", off, each(6, to(1)), fly(0, 0, 5), ways(api.Delivered, 0, 0, 1, 5, 6, 1)},

		{"six in a row", row(6), each(6, to(1)), fly(0, 0, 16), ways(api.Delivered, 0, 0, 1, 1, 0, 1, 2, 0, 1, 3, 0, 1, 4, 0, 1, 5, 0, 1)},
		{"six in a row, a TTL of 6", row(6), each(6, to(1)), fly(0, 0, 6), ways(api.Delivered, 0, 0, 1, 1, 0, 1, 2, 0, 1, 3, 0, 1, 4, 0, 1, 5, 0, 1)},
		{"six in a row, a TTL of 5", row(6), each(6, to(1)), fly(0, 0, 5), ways(api.NoTTL, 0, 0, 1, 1, 0, 1, 2, 0, 1, 3, 0, 1, 4, 0, 1, 5, 0, 0)},
		{"six in a row, from the third one back", row(6), each(6, to(0)), fly(2, 1, 16), ways(api.Delivered, 2, 1, 0, 1, 1, 0, 0, 1, 0)},
		{"a ring", ring(3), each(3, to(1)), fly(0, 0, 4), ways(api.NoTTL, 0, 0, 1, 1, 0, 1, 2, 0, 1, 0, 0, 1, 1, 0, 0)},
		{"a ring, the other way", ring(3), each(3, to(0)), fly(0, 0, 3), ways(api.NoTTL, 0, 0, 0, 2, 1, 0, 1, 1, 0, 0, 1, 0)},
		{"to and fro", two(), back, fly(0, 0, 3), ways(api.NoTTL, 0, 0, 1, 1, 0, 0, 0, 1, 1, 1, 0, 0)},
		{"there and back, and out", two(), byIn, fly(0, 0, 9), ways(api.Delivered, 0, 0, 1, 1, 0, 0, 0, 1, 0)},
		{"to itself", network(1, 2, link(0, 1, 0, 1)), each(1, to(1)), fly(0, 0, 2), ways(api.NoTTL, 0, 0, 1, 0, 1, 1, 0, 1, 0)},
		{"to itself, and out", network(1, 3, link(0, 0, 0, 1)), each(1, to(0), forward(0, 0, 1, 0, 2)), fly(0, 2, 5), ways(api.Delivered, 0, 2, 0, 0, 1, 2)},

		{"to 10.1.2.3", star, byAddr, dst(addr), ways(api.Delivered, 0, 0, 2, 2, 0, 1)},
		{"to 10.1.2.4", star, byAddr, dst(addr + 1), ways(api.NoRule, 0, 0, 2, 2, 0, 0)},
		{"to 10.2.0.0", star, byAddr, dst(ten | 2<<16), ways(api.Delivered, 0, 0, 1, 1, 0, 2)},
		{"to 11.0.0.0", star, byAddr, dst(11 << 24), ways(api.NoRule, 0, 0, 0)},
	} {
		l := Walk(x.t, x.c, x.f)
		if got := traced(l); !slices.Equal(got.ways, x.want.ways) || got.end != x.want.end {
			t.Errorf("%s: %+v, want %+v", x.name, got, x.want)
		}
		if got := traced(walkModel(x.t, x.c, x.f)); !slices.Equal(got.ways, x.want.ways) || got.end != x.want.end {
			t.Errorf("%s: the model errs: %+v, want %+v", x.name, got, x.want)
		}
		for _, h := range l {
			if h.Tick != 0 || h.Id != x.f.P.Id || h.Tag != x.f.P.Tag {
				t.Errorf("%s: another Tick, Id or Tag: %+v", x.name, h)
			}
		}
		holdEnd(t, l, x.f.P.TTL)
		hold(t, x.t, x.c, x.f)
	}
}

func TestWalkWhole(t *testing.T) { // the chapter's example, each part of its hops
	f := api.Fly{P: api.Packet{Id: 4, Src: 5, Dst: addr, TTL: 6, Tag: 7}}
	want := []api.Hop{
		{Tick: 0, Id: 4, Switch: 0, In: 0, Tag: 7, What: 0, Out: 1},
		{Tick: 0, Id: 4, Switch: 1, In: 0, Tag: 7, What: 1, Out: 1},
	}
	if l := Walk(two(), each(2, to(1)), f); !slices.Equal(l, want) {
		t.Errorf("%+v, want %+v", l, want)
	}
}

// TestWalkTTL: at each TTL so many hops, where nothing else ends it.
func TestWalkTTL(t *testing.T) {
	for _, x := range []struct{ ttl, hops int }{
		{math.MinInt, 1}, {math.MinInt + 1, 1}, {-17, 1}, {-1, 1}, {0, 1}, {1, 2}, {2, 3}, {3, 4}, {8, 9}, {14, 15}, {15, 16},
		{16, 17}, {17, 17}, {18, 17}, {99, 17}, {255, 17}, {256, 17}, {1 << 32, 17}, {math.MaxInt - 1, 17}, {math.MaxInt, 17},
	} {
		for n := 1; n < 9; n++ {
			l := Walk(ring(n), each(n, to(1)), fly(0, 0, x.ttl))
			if len(l) != x.hops {
				t.Errorf("a ring of %d, a TTL of %d: %d hops, want %d", n, x.ttl, len(l), x.hops)
			}
			for i, h := range l {
				want := api.Hop{Id: 7, Switch: i % n, Tag: 3, What: api.Went, Out: 1}
				if i == x.hops-1 {
					want.What, want.Out = api.NoTTL, 0
				}
				if h != want {
					t.Errorf("a ring of %d, a TTL of %d, hop %d: %+v, want %+v", n, x.ttl, i, h, want)
				}
			}
		}
	}
}

// TestWalkRow: a row of which the last one is just reached, or just not; longer ones than may be.
func TestWalkRow(t *testing.T) {
	for n := 1; n <= 20; n++ {
		for _, ttl := range []int{0, 1, 2, 5, 6, 7, 15, 16, 17, 18, 99, math.MaxInt} {
			lives := min(ttl, 16)
			hops, end := n, api.Delivered
			if lives < n {
				hops, end = lives+1, api.NoTTL
			}
			l := Walk(row(n), each(n, to(1)), fly(0, 0, ttl))
			if len(l) != hops || l[len(l)-1].What != end || l[len(l)-1].Switch != hops-1 {
				t.Errorf("a row of %d, a TTL of %d: %d hops, want %d: %+v", n, ttl, len(l), hops, l)
			}
		}
	}
}

// TestWalkIsSteps: a walk is Step's hop, and Step's of where it goes.
func TestWalkIsSteps(t *testing.T) {
	c := counter(1)
	for range 3000 {
		switches, ports := c.next(6)+1, c.next(8)+1
		net, f, y := c.good(switches, ports, 12), c.conf(switches, ports, 4), c.fly(switches, ports)
		l := Walk(net, f, y)
		y.P.TTL = min(y.P.TTL, 16)
		for i, h := range l {
			step, next := Step(net, f, y)
			if h != step {
				t.Fatalf("hop %d of %+v is %+v, Step's is %+v", i, l, h, step)
			}
			y = next
		}
		if y != (api.Fly{}) {
			t.Fatalf("after %+v it is at %+v", l, y)
		}
	}
}

// P13.1 and P13.2, at many inputs

func TestAgainstModelSmall(t *testing.T) { // two switches of two ports: all links of one, all that both do with all packets
	for n := range 16 {
		net := network(2, 2, link(n/8, n/4%2, n/2%2, n%2))
		for a := range 5 {
			for b := range 5 {
				var f api.Conf
				for _, k := range []int{a, b} {
					f = append(f, [][]api.Rule{nil, {drop(0, 0, -1, 0)}, {to(0)}, {to(1)}, {forward(0, 0, 0, 0, 1), forward(0, 0, 1, 0, 0)}}[k])
				}
				for at := range 4 {
					for _, ttl := range []int{0, 1, 2, 3, 17} {
						hold(t, net, f, fly(at/2, at%2, ttl))
					}
				}
			}
		}
	}
}

func TestAgainstModel(t *testing.T) {
	c := counter(2)
	const rounds = 20000
	var ends [8]int
	long, most := 0, 0
	for range rounds {
		switches, ports := c.next(6)+1, c.next(6)+1
		net, f, y := c.good(switches, ports, c.next(13)), c.conf(switches, ports, c.one(1, 4, 8)), c.fly(switches, ports)
		hold(t, net, f, y)
		l := walkModel(net, f, y)
		ends[l[len(l)-1].What]++
		if len(l) > 2 {
			long++
		}
		if len(l) == 17 {
			most++
		}
	}
	for _, what := range []int{api.Delivered, api.ByRule, api.NoRule, api.NoTTL} {
		if ends[what] < rounds/20 {
			t.Errorf("of %d walks %d end by %d: too few to tell by", rounds, ends[what], what)
		}
	}
	if ends[api.Went]+ends[api.NoVersion]+ends[api.Closed]+ends[api.Full] != 0 || long < rounds/10 || most < rounds/100 {
		t.Errorf("of %d walks: ends %v, %d of more than two hops, %d of 17", rounds, ends, long, most)
	}
}

func TestTurned(t *testing.T) { // some numbers turned to other ones, lists too few and too many
	c := counter(3)
	const rounds = 20000
	on := 0
	for range rounds {
		switches, ports := c.next(6)+1, c.next(6)+1
		net, f, y := c.good(switches, ports, 12), c.conf(switches, ports, 5), c.fly(switches, ports)
		for range c.next(4) + 1 {
			c.turn(&net, f, &y)
		}
		switch c.next(6) {
		case 0:
			f = f[:c.next(len(f))]
		case 1:
			f = append(f, f[0])
		case 2:
			net.Links = append(net.Links, net.Links...)
		}
		hold(t, net, f, y)
		if len(walkModel(net, f, y)) > 1 {
			on++
		}
	}
	if on < rounds/10 {
		t.Errorf("of %d walks %d go on: too few to tell by", rounds, on)
	}
}

// P13.3

func TestEachWalkEnds(t *testing.T) { // where no rule drops, and each switch has one for all: only the TTL, or a port that leads out
	c := counter(4)
	out, lived := 0, 0
	for range 5000 {
		switches, ports := c.next(6)+1, c.next(8)+1
		net, y := c.good(switches, ports, c.next(13)), c.fly(switches, ports)
		var f api.Conf
		for range switches {
			f = append(f, list(to(c.next(ports)), forward(0, 0, c.next(ports), 1, c.next(ports))))
		}
		l := Walk(net, f, y)
		holdEnd(t, l, y.P.TTL)
		switch l[len(l)-1].What {
		case api.Delivered:
			out++
		case api.NoTTL:
			lived++
			if len(l) != min(y.P.TTL, 16)+1 {
				t.Fatalf("%d hops of a TTL of %d, and no other end: %+v", len(l), y.P.TTL, l)
			}
		default:
			t.Fatalf("an end that no rule asks for: %+v", l)
		}
	}
	if out < 500 || lived < 500 {
		t.Errorf("%d walks end out of the net, %d by their TTL: too few to tell by", out, lived)
	}
}

// P1, R1, R3, R5

func TestMuch(t *testing.T) { // far more than may be: both calls end
	net := network(2, 2, slices.Repeat([]api.Link{link(0, 0, 9, 9)}, 50000)...)
	net.Links = append(net.Links, link(0, 1, 1, 1))
	f := each(2, append(slices.Repeat(list(drop(0, 0, -1, 0)), 50000), forward(0, 0, -1, 1, 1))...)
	l := Walk(net, f, fly(0, 0, math.MaxInt))
	if len(l) != 17 || l[16].What != api.NoTTL || l[16].Switch != 0 || l[15].Switch != 1 {
		t.Errorf("%+v", l)
	}
	if l := Walk(net, make(api.Conf, 100000), fly(99999, 0, 5)); len(l) != 1 || l[0].What != api.NoRule {
		t.Errorf("of many lists: %+v", l)
	}
}

func TestWhatIsHandedInStays(t *testing.T) {
	c := counter(5)
	for range 1000 {
		switches, ports := c.next(6)+1, c.next(4)+1
		net, f, y := c.good(switches, ports, 12), c.conf(switches, ports, 5), c.fly(switches, ports)
		links := append(net.Links, link(1, 1, 1, 1), link(2, 2, 2, 2)) // something stands behind the end of each list
		net.Links = links[:len(net.Links)]
		lists := append(f, list(to(9)))
		var rules [][]api.Rule
		for i, l := range lists {
			whole := append(slices.Clone(l), to(8), drop(1, 32, 0, 0))
			lists[i] = whole[:len(l)]
			rules = append(rules, whole)
		}
		f = lists[:switches]
		wasLinks, wasRules, wasLists := slices.Clone(links), each(0), slices.Clone(lists)
		for _, l := range rules {
			wasRules = append(wasRules, slices.Clone(l))
		}
		was := y
		Step(net, f, y)
		Walk(net, f, y)
		if y != was || !slices.Equal(links, wasLinks) || net.Switches != switches || net.Ports != ports {
			t.Fatal("changed: the packet or the topology")
		}
		for i := range lists {
			if !slices.Equal(lists[i], wasLists[i]) || !slices.Equal(rules[i], wasRules[i]) {
				t.Fatalf("changed: %+v, was %+v", rules[i], wasRules[i])
			}
		}
	}
}

func TestWhatIsAnsweredIsOwn(t *testing.T) {
	net, f := two(), each(2, to(1))
	want := []api.Hop{{Id: 7, Tag: 3, Out: 1}, {Id: 7, Switch: 1, Tag: 3, What: api.Delivered, Out: 1}}
	first := Walk(net, f, fly(0, 0, 5))
	first[0], first[1] = api.Hop{Id: 99}, api.Hop{Id: 98}
	_ = append(first, api.Hop{Id: 97})
	second := Walk(net, f, fly(0, 0, 5))
	if !slices.Equal(second, want) {
		t.Errorf("asked again: %+v", second)
	}
	f[0][0], net.Links[0] = to(0), link(0, 0, 1, 1)
	if !slices.Equal(second, want) {
		t.Errorf("after a change of what was handed in: %+v", second)
	}
	if l := Walk(net, f, fly(0, 1, 1)); len(l) != 2 || l[0].Out != 0 || l[1].In != 1 {
		t.Errorf("of other links and rules: %+v", l)
	}
}

func TestAskedInAnyOrder(t *testing.T) { // no answer hangs on what was asked before
	c := counter(6)
	long, short := ring(2), two()
	for range 300 {
		if len(Walk(long, each(2, to(1)), fly(0, 0, 16))) != 17 || len(Walk(short, each(2, to(1)), fly(0, 0, 16))) != 2 {
			t.Fatal("another answer")
		}
		switches, ports := c.next(6)+1, c.next(4)+1
		hold(t, c.good(switches, ports, 12), c.conf(switches, ports, 5), c.fly(switches, ports))
	}
}
