package topo

import (
	"math"
	"slices"
	"testing"

	"wayfinder/api"
)

// The model that the calls are held against goes through the links one by one, and holds each end against each other one; it has no map. It finds all ports by dividing one number.

func within(n, least, most int) bool { return least <= n && n <= most }

func isPortModel(t api.Topo, sw, port int) bool {
	return sw >= 0 && port >= 0 && t.Switches > sw && t.Ports > port
}

func mayModel(t api.Topo) bool {
	if !within(t.Switches, 1, 6) || !within(t.Ports, 1, 8) || len(t.Links) > 12 {
		return false
	}
	var sw, port []int
	for _, k := range t.Links {
		sw, port = append(sw, k.A, k.B), append(port, k.PA, k.PB)
	}
	for i := range sw {
		if !isPortModel(t, sw[i], port[i]) {
			return false
		}
		for j := range i {
			if sw[i] == sw[j] && port[i] == port[j] {
				return false
			}
		}
	}
	return true
}

func farModel(t api.Topo, sw, port int) (int, int, bool) {
	for _, k := range t.Links {
		if !isPortModel(t, sw, port) {
			break
		}
		if k.A == sw && k.PA == port {
			return k.B, k.PB, true
		}
		if k.B == sw && k.PB == port {
			return k.A, k.PA, true
		}
	}
	return 0, 0, false
}

func edgeModel(t api.Topo, sw, port int) bool {
	_, _, is := farModel(t, sw, port)
	return isPortModel(t, sw, port) && !is
}

func edgesModel(t api.Topo) [][2]int {
	var l [][2]int
	if t.Switches > 100 || t.Ports > 100 || t.Switches < 0 || t.Ports < 0 {
		return nil
	}
	for n := 0; n < t.Switches*t.Ports; n++ {
		if edgeModel(t, n/t.Ports, n%t.Ports) {
			l = append(l, [2]int{n / t.Ports, n % t.Ports})
		}
	}
	return l
}

// counter makes numbers from a number, the same ones each time.
type counter uint64

func (c *counter) next(below int) int {
	*c = *c*6364136223846793005 + 1442695040888963407
	return int(uint64(*c)>>31) % below
}

func (c *counter) one(l ...int) int { return l[c.next(len(l))] }

// wide is a number that hardly anything may be.
func (c *counter) wide() int {
	return c.one(math.MinInt, math.MinInt+1, math.MaxInt-1, math.MaxInt, -1, -2, 8, 9, 99, 100, 101, 256, 1<<32, 1<<40)
}

// order is the numbers from 0 to below n, in any order.
func (c *counter) order(n int) []int {
	l := make([]int, n)
	for i := range l {
		j := c.next(i + 1)
		l[i], l[j] = l[j], i
	}
	return l
}

// good is a topology that may be, with as many links as asked for, or as many as its ports have room for.
func (c *counter) good(switches, ports, links int) api.Topo {
	t := api.Topo{Switches: switches, Ports: ports}
	ends := c.order(switches * ports)
	for i := 0; i+1 < len(ends) && len(t.Links) < links; i += 2 {
		a, b := ends[i], ends[i+1]
		t.Links = append(t.Links, api.Link{A: a / ports, PA: a % ports, B: b / ports, PB: b % ports})
	}
	return t
}

// any is a topology of few ports, so that many of them are ends of two links, with some wrong numbers.
func (c *counter) any() api.Topo {
	t := api.Topo{Switches: c.next(5), Ports: c.next(5)}
	for range c.next(7) {
		t.Links = append(t.Links, api.Link{A: c.next(5), PA: c.next(5), B: c.next(5), PB: c.next(5)})
	}
	if c.next(4) == 0 {
		t.Switches = c.one(t.Switches, c.wide())
		t.Ports = c.one(t.Ports, c.wide())
	}
	for i := range t.Links {
		if c.next(8) == 0 {
			k := &t.Links[i]
			*[]*int{&k.A, &k.PA, &k.B, &k.PB}[c.next(4)] = c.wide()
		}
	}
	return t
}

func link(a, pa, b, pb int) api.Link { return api.Link{A: a, PA: pa, B: b, PB: pb} }

func topo(switches, ports int, l ...api.Link) api.Topo {
	return api.Topo{Switches: switches, Ports: ports, Links: l}
}

// row is so many links of a net of six switches of eight ports: the first ports of each to the next ones of the same switch.
func row(n int) []api.Link {
	var l []api.Link
	for i := range n {
		l = append(l, link(i%6, i/6*2, i%6, i/6*2+1))
	}
	return l
}

// hold holds all four calls against the model: at all ports of the topology that are not too many, at ends of its links, and around them.
func hold(tt *testing.T, t api.Topo) {
	tt.Helper()
	if got, want := May(t), mayModel(t); got != want {
		tt.Fatalf("May(%+v) = %v, want %v", t, got, want)
	}
	if got, want := Edges(t), edgesModel(t); !slices.Equal(got, want) {
		tt.Fatalf("Edges(%+v) = %v, want %v", t, got, want)
	}
	ends := [][2]int{{0, 0}, {-1, 0}, {0, -1}, {t.Switches, 0}, {0, t.Ports}, {t.Switches - 1, t.Ports - 1}, {math.MaxInt, math.MaxInt}, {math.MinInt, math.MinInt}}
	for _, k := range t.Links {
		ends = append(ends, [2]int{k.A, k.PA}, [2]int{k.B, k.PB}, [2]int{k.PA, k.A}, [2]int{k.A, k.PB})
	}
	for sw := range min(t.Switches, 7) {
		for port := range min(t.Ports, 9) {
			ends = append(ends, [2]int{sw, port})
		}
	}
	for _, e := range ends {
		holdAt(tt, t, e[0], e[1])
	}
}

func holdAt(tt *testing.T, t api.Topo, sw, port int) {
	tt.Helper()
	s, p, is := Far(t, sw, port)
	if ws, wp, wis := farModel(t, sw, port); s != ws || p != wp || is != wis {
		tt.Fatalf("Far(%+v, %d, %d) = %d, %d, %v, want %d, %d, %v", t, sw, port, s, p, is, ws, wp, wis)
	}
	if got, want := Edge(t, sw, port), edgeModel(t, sw, port); got != want {
		tt.Fatalf("Edge(%+v, %d, %d) = %v, want %v", t, sw, port, got, want)
	}
}

// P11.1: May

func TestMay(t *testing.T) {
	for _, x := range []struct {
		name string
		t    api.Topo
		want bool
	}{
		{"the chapter's example", topo(2, 2, link(0, 1, 1, 0)), true},
		{"noughts", api.Topo{}, false},
		{"no link", topo(3, 2), true},
		{"no link, but a list", api.Topo{Switches: 3, Ports: 2, Links: []api.Link{}}, true},
		{"no switch", topo(0, 1), false},
		{"one switch", topo(1, 1), true},
		{"six switches", topo(6, 1), true},
		{"seven switches", topo(7, 1), false},
		{"switches below 0", topo(-1, 1), false},
		{"no port", topo(1, 0), false},
		{"eight ports", topo(1, 8), true},
		{"nine ports", topo(1, 9), false},
		{"ports below 0", topo(1, -1), false},
		{"both the greatest", topo(6, 8), true},
		{"seven switches and nine ports", topo(7, 9), false},
		{"the least number of switches there is", topo(math.MinInt, 1), false},
		{"the greatest number of switches there is", topo(math.MaxInt, 1), false},
		{"the least number of ports there is", topo(1, math.MinInt), false},
		{"the greatest number of ports there is", topo(1, math.MaxInt), false},
		{"both the greatest that there are", topo(math.MaxInt, math.MaxInt), false},

		{"11 links", topo(6, 8, row(11)...), true},
		{"12 links", topo(6, 8, row(12)...), true},
		{"13 links", topo(6, 8, row(13)...), false},
		{"24 links, at all ports", topo(6, 8, row(24)...), false},
		{"a link with no switch", topo(0, 2, link(0, 0, 0, 1)), false},
		{"a link with no port", topo(2, 0, link(0, 0, 1, 0)), false},
		{"of a switch to itself, at two ports", topo(1, 2, link(0, 0, 0, 1)), true},
		{"of a switch to itself, at two ports, the greater first", topo(1, 2, link(0, 1, 0, 0)), true},
		{"of two switches, at ports of the same number", topo(2, 1, link(0, 0, 1, 0)), true},
		{"two links of the same two switches", topo(2, 2, link(0, 0, 1, 0), link(1, 1, 0, 1)), true},
		{"a switch's and a port's numbers exchanged", topo(2, 2, link(0, 1, 1, 0), link(0, 0, 1, 1)), true},
		{"the last port of the last switch", topo(6, 8, link(5, 7, 0, 0)), true},
		{"the last port of the last switch, as B", topo(6, 8, link(0, 0, 5, 7)), true},

		{"both ends at one port", topo(2, 2, link(0, 1, 0, 1)), false},
		{"both ends at port 0 of switch 0", topo(2, 2, link(0, 0, 0, 0)), false},
		{"both ends at one port, after one that may be", topo(2, 2, link(0, 0, 1, 0), link(1, 1, 1, 1)), false},
		{"A is A of another one", topo(3, 2, link(0, 1, 1, 0), link(0, 1, 1, 1)), false},
		{"A is B of another one", topo(3, 2, link(0, 1, 1, 0), link(1, 0, 1, 1)), false},
		{"B is A of another one", topo(3, 2, link(0, 1, 1, 0), link(1, 1, 0, 1)), false},
		{"B is B of another one", topo(3, 2, link(0, 1, 1, 0), link(1, 1, 1, 0)), false},
		{"the same link twice", topo(3, 2, link(0, 1, 1, 0), link(0, 1, 1, 0)), false},
		{"a link, and back", topo(3, 2, link(0, 1, 1, 0), link(1, 0, 0, 1)), false},
		{"the first and the third", topo(3, 2, link(0, 1, 1, 0), link(1, 1, 2, 0), link(2, 1, 0, 1)), false},
		{"a port of three links", topo(4, 1, link(0, 0, 1, 0), link(2, 0, 1, 0), link(3, 0, 1, 0)), false},
	} {
		if got := May(x.t); got != x.want {
			t.Errorf("%s: May(%+v) = %v, want %v", x.name, x.t, got, x.want)
		}
		if got := mayModel(x.t); got != x.want {
			t.Errorf("%s: the model errs: %v, want %v", x.name, got, x.want)
		}
	}
}

func TestMayWrongEnds(t *testing.T) { // each number of a link, of each link, below 0 or too great
	good := []api.Link{link(0, 1, 1, 0), link(1, 2, 2, 0), link(2, 3, 0, 3)}
	if !May(topo(3, 4, good...)) {
		t.Fatal("the links are not good")
	}
	for at := range good {
		for field := range 4 {
			most := []int{3, 4, 3, 4}[field]
			for _, n := range []int{-1, -2, most, most + 1, 8, 100, math.MinInt, math.MinInt + 1, math.MaxInt, 1 << 32, -1 << 32} {
				l := slices.Clone(good)
				k := &l[at]
				*[]*int{&k.A, &k.PA, &k.B, &k.PB}[field] = n
				if May(topo(3, 4, l...)) {
					t.Errorf("link %d, field %d: with %d it may be: %+v", at, field, n, l)
				}
			}
		}
	}
	for _, x := range []api.Topo{ // ends that are ports of one more, and that are none of one fewer
		topo(2, 2, link(0, 0, 1, 1)), topo(6, 8, link(0, 0, 5, 7)), topo(6, 8, link(5, 7, 0, 0)), topo(1, 2, link(0, 0, 0, 1)),
	} {
		fewer, lower := x, x
		fewer.Switches--
		lower.Ports--
		if !May(x) || May(fewer) || May(lower) {
			t.Errorf("%+v: %v, of one switch fewer %v, of one port fewer %v", x, May(x), May(fewer), May(lower))
		}
	}
}

func TestMayAllSizes(t *testing.T) {
	for switches := -2; switches < 12; switches++ {
		for ports := -2; ports < 12; ports++ {
			want := within(switches, 1, 6) && within(ports, 1, 8)
			if got := May(topo(switches, ports)); got != want {
				t.Errorf("%d switches of %d ports: %v", switches, ports, got)
			}
		}
	}
}

// P11.2: Far

func TestFar(t *testing.T) {
	type answer struct {
		sw, port int
		is       bool
	}
	none := answer{}
	two := topo(2, 2, link(0, 1, 1, 0))
	twice := topo(3, 3, link(0, 1, 1, 0), link(0, 1, 2, 0), link(2, 1, 0, 1), link(2, 2, 1, 0))
	looped := topo(2, 2, link(1, 1, 1, 1), link(1, 1, 0, 0), link(0, 0, 0, 0))
	off := topo(2, 2, link(0, 1, 5, 6), link(-1, 7, 1, 1), link(3, 3, 4, 4), link(-1, 0, 0, -1))
	for _, x := range []struct {
		name     string
		t        api.Topo
		sw, port int
		want     answer
	}{
		{"the chapter's example", two, 0, 1, answer{1, 0, true}},
		{"the chapter's example, from B", two, 1, 0, answer{0, 1, true}},
		{"a port without a link", two, 0, 0, none},
		{"the other port without one", two, 1, 1, none},
		{"of no link", topo(2, 2), 0, 1, none},
		{"of noughts", api.Topo{}, 0, 0, none},
		{"a switch below 0", two, -1, 0, none},
		{"a switch too great", two, 2, 0, none},
		{"a port below 0", two, 0, -1, none},
		{"a port too great", two, 0, 2, none},
		{"numbers as great as they come", two, math.MaxInt, math.MaxInt, none},
		{"numbers as far below 0 as they come", two, math.MinInt, math.MinInt, none},

		{"the first of two links of which it is A", twice, 0, 1, answer{1, 0, true}},
		{"A of the first, B of the last", twice, 1, 0, answer{0, 1, true}},
		{"B of one alone, whose A is of an earlier one", twice, 2, 0, answer{0, 1, true}},
		{"A of one alone, whose B is of an earlier one", twice, 2, 1, answer{0, 1, true}},
		{"A of the last", twice, 2, 2, answer{1, 0, true}},
		{"none among many", twice, 1, 1, none},

		{"both ends of one, then A of another one", looped, 1, 1, answer{1, 1, true}},
		{"B of one, then both ends of one", looped, 0, 0, answer{1, 1, true}},
		{"both ends of one at noughts", topo(1, 1, link(0, 0, 0, 0)), 0, 0, answer{0, 0, true}},
		{"B of the first, A of the next one", topo(3, 1, link(0, 0, 1, 0), link(1, 0, 2, 0)), 1, 0, answer{0, 0, true}},
		{"A of the first, B of the next one", topo(3, 1, link(1, 0, 2, 0), link(0, 0, 1, 0)), 1, 0, answer{2, 0, true}},

		{"whose other end is no port", off, 0, 1, answer{5, 6, true}},
		{"whose other end is no port, from B", off, 1, 1, answer{-1, 7, true}},
		{"an end that is no port", off, 5, 6, none},
		{"an end below 0", off, -1, 7, none},
		{"an end that is no port, to one that is none", off, 3, 3, none},
		{"an end whose switch is below 0", off, -1, 0, none},
		{"an end whose port is below 0", off, 0, -1, none},

		{"more switches and ports than may be", topo(101, 200, link(100, 199, 7, 8)), 100, 199, answer{7, 8, true}},
		{"more switches than may be, from B", topo(101, 200, link(100, 199, 7, 8)), 7, 8, answer{100, 199, true}},
		{"as many as there are", topo(math.MaxInt, math.MaxInt, link(math.MaxInt-1, 0, 0, math.MaxInt-1)), math.MaxInt - 1, 0, answer{0, math.MaxInt - 1, true}},
		{"as many as there are, one too great", topo(math.MaxInt, math.MaxInt, link(math.MaxInt, 0, 0, 0)), math.MaxInt, 0, none},
		{"switches below 0", topo(-1, 2, link(0, 0, 0, 1)), 0, 0, none},
		{"switches below 0, at a switch below 0", topo(-5, 2, link(-2, 0, 0, 1)), -2, 0, none},
		{"no port", topo(2, 0, link(0, 0, 1, 0)), 0, 0, none},
		{"the 13th link", topo(6, 8, row(13)...), 0, 4, answer{0, 5, true}},
	} {
		s, p, is := Far(x.t, x.sw, x.port)
		if got := (answer{s, p, is}); got != x.want {
			t.Errorf("%s: Far(%+v, %d, %d) = %+v, want %+v", x.name, x.t, x.sw, x.port, got, x.want)
		}
		if s, p, is = farModel(x.t, x.sw, x.port); (answer{s, p, is}) != x.want {
			t.Errorf("%s: the model errs: %d, %d, %v, want %+v", x.name, s, p, is, x.want)
		}
		port := within(x.sw, 0, x.t.Switches-1) && within(x.port, 0, x.t.Ports-1)
		if got := Edge(x.t, x.sw, x.port); got != (port && !x.want.is) {
			t.Errorf("%s: Edge(%+v, %d, %d) = %v", x.name, x.t, x.sw, x.port, got)
		}
	}
}

// P11.2: Edge

func TestEdge(t *testing.T) {
	two := topo(2, 2, link(0, 1, 1, 0))
	for _, x := range []struct {
		name     string
		t        api.Topo
		sw, port int
		want     bool
	}{
		{"a port without a link", two, 0, 0, true},
		{"the other port without one", two, 1, 1, true},
		{"A", two, 0, 1, false},
		{"B", two, 1, 0, false},
		{"a switch below 0", two, -1, 0, false},
		{"a switch too great", two, 2, 0, false},
		{"a port below 0", two, 0, -1, false},
		{"a port too great", two, 1, 2, false},
		{"of noughts", api.Topo{}, 0, 0, false},
		{"the only port", topo(1, 1), 0, 0, true},
		{"both ends of a link", topo(1, 1, link(0, 0, 0, 0)), 0, 0, false},
		{"an end of two links", topo(2, 2, link(0, 0, 1, 0), link(1, 1, 0, 0)), 0, 0, false},
		{"whose link's other end is no port", topo(1, 2, link(0, 1, 9, 9)), 0, 1, false},
		{"beside an end that is no port", topo(1, 2, link(0, 2, 1, 1)), 0, 1, true},
		{"no switches, of ports", topo(0, 2), 0, 0, false},
		{"switches without ports", topo(2, 0), 0, 0, false},
		{"switches below 0", topo(-1, 2), -1, 0, false},
		{"more switches and ports than Edges goes through", topo(101, 101), 100, 100, true},
		{"more switches and ports than Edges goes through, one too great", topo(101, 101), 101, 100, false},
		{"as many as there are", topo(math.MaxInt, math.MaxInt), math.MaxInt - 1, math.MaxInt - 1, true},
		{"as many as there are, one too great", topo(math.MaxInt, math.MaxInt), 0, math.MaxInt, false},
		{"as few as there are", topo(math.MinInt, math.MinInt), math.MinInt, math.MinInt, false},
	} {
		if got := Edge(x.t, x.sw, x.port); got != x.want {
			t.Errorf("%s: Edge(%+v, %d, %d) = %v, want %v", x.name, x.t, x.sw, x.port, got, x.want)
		}
		if got := edgeModel(x.t, x.sw, x.port); got != x.want {
			t.Errorf("%s: the model errs: %v, want %v", x.name, got, x.want)
		}
	}
}

// P11.2: Edges

func TestEdges(t *testing.T) {
	for _, x := range []struct {
		name string
		t    api.Topo
		want [][2]int
	}{
		{"the chapter's example", topo(2, 2, link(0, 1, 1, 0)), [][2]int{{0, 0}, {1, 1}}},
		{"noughts", api.Topo{}, nil},
		{"no link", topo(2, 3), [][2]int{{0, 0}, {0, 1}, {0, 2}, {1, 0}, {1, 1}, {1, 2}}},
		{"no link, more switches than ports", topo(3, 2), [][2]int{{0, 0}, {0, 1}, {1, 0}, {1, 1}, {2, 0}, {2, 1}}},
		{"all ports joined", topo(2, 2, link(0, 1, 1, 0), link(1, 1, 0, 0)), nil},
		{"several links", topo(3, 2, link(2, 1, 0, 0), link(1, 1, 2, 0)), [][2]int{{0, 1}, {1, 0}}},
		{"a port of two links", topo(3, 1, link(0, 0, 1, 0), link(0, 0, 1, 0)), [][2]int{{2, 0}}},
		{"both ends at one port", topo(1, 3, link(0, 1, 0, 1)), [][2]int{{0, 0}, {0, 2}}},
		{"an end that is no port", topo(2, 1, link(0, 0, 2, 0)), [][2]int{{1, 0}}},
		{"ends that are no ports", topo(2, 1, link(0, 1, 2, 0), link(-1, 0, 0, -1)), [][2]int{{0, 0}, {1, 0}}},
		{"no switch", topo(0, 3), nil},
		{"no port", topo(3, 0), nil},
		{"switches below 0", topo(-1, 3), nil},
		{"ports below 0", topo(3, -1), nil},
		{"both below 0", topo(-3, -3), nil},
		{"101 switches", topo(101, 1), nil},
		{"101 ports", topo(1, 101), nil},
		{"101 switches without ports", topo(101, 0), nil},
		{"as many as there are", topo(math.MaxInt, math.MaxInt), nil},
		{"as many switches as there are", topo(math.MaxInt, 1), nil},
		{"as many ports as there are", topo(1, math.MaxInt), nil},
		{"as few as there are", topo(math.MinInt, math.MinInt), nil},
	} {
		if got := Edges(x.t); !slices.Equal(got, x.want) {
			t.Errorf("%s: Edges(%+v) = %v, want %v", x.name, x.t, got, x.want)
		}
		if got := edgesModel(x.t); !slices.Equal(got, x.want) {
			t.Errorf("%s: the model errs: %v, want %v", x.name, got, x.want)
		}
	}
}

func TestEdgesOfMany(t *testing.T) { // at 100 all are told, also those that may not be; at 101 nothing
	for _, x := range []struct{ switches, ports, want int }{
		{100, 100, 9996}, {100, 4, 396}, {4, 100, 396}, {7, 9, 59},
		{101, 100, 0}, {100, 101, 0}, {101, 101, 0}, {102, 4, 0}, {4, 102, 0},
	} {
		all := topo(x.switches, x.ports, link(0, 0, x.switches-1, x.ports-1), link(1, 0, 0, 1))
		l := Edges(all)
		if len(l) != x.want {
			t.Errorf("%d switches of %d ports: %d, want %d", x.switches, x.ports, len(l), x.want)
		}
		if !slices.Equal(l, edgesModel(all)) {
			t.Errorf("%d switches of %d ports: not in order, or other ones", x.switches, x.ports)
		}
	}
}

func TestEdgesAreEdge(t *testing.T) { // what Edges tells is just what Edge says of each port, in order
	c := counter(1)
	for range 2000 {
		x := c.any()
		if x.Switches > 6 || x.Ports > 8 {
			continue
		}
		var want [][2]int
		for sw := -1; sw < 8; sw++ {
			for port := -1; port < 10; port++ {
				if Edge(x, sw, port) {
					want = append(want, [2]int{sw, port})
				}
			}
		}
		if got := Edges(x); !slices.Equal(got, want) {
			t.Fatalf("Edges(%+v) = %v, want %v", x, got, want)
		}
	}
}

// P11.1 and P11.2, at many inputs

func TestAgainstModelSmall(t *testing.T) { // all topologies of up to two links whose numbers are below 3
	var ends []api.Link
	for n := range 81 {
		ends = append(ends, link(n/27, n/9%3, n/3%3, n%3))
	}
	for size := range 9 {
		switches, ports := size/3+1, size%3+1
		hold(t, topo(switches, ports))
		for _, a := range ends {
			hold(t, topo(switches, ports, a))
			for _, b := range ends {
				x := topo(switches, ports, a, b)
				if May(x) != mayModel(x) {
					t.Fatalf("May(%+v) = %v", x, May(x))
				}
				holdAt(t, x, a.A, a.PA)
				holdAt(t, x, b.B, b.PB)
			}
		}
	}
}

func TestAgainstModel(t *testing.T) {
	c := counter(2)
	const rounds = 6000
	may, edges, several := 0, 0, 0
	for range rounds {
		x := c.any()
		hold(t, x)
		if mayModel(x) {
			may++
		}
		if len(edgesModel(x)) > 0 {
			edges++
		}
		if len(x.Links) > 2 {
			several++
		}
	}
	if may < rounds/20 || edges < rounds/3 || several < rounds/3 {
		t.Errorf("of %d topologies %d may be, %d have edges, %d several links: too few to tell by", rounds, may, edges, several)
	}
}

func TestGoodOneTurned(t *testing.T) { // one number of a topology that may be, turned to another one
	c := counter(3)
	const rounds = 4000
	still := 0
	for range rounds {
		x := c.good(c.next(6)+1, c.next(8)+1, c.next(13))
		if !May(x) {
			t.Fatalf("May(%+v) is false", x)
		}
		hold(t, x)
		if len(x.Links) == 0 {
			continue
		}
		k := &x.Links[c.next(len(x.Links))]
		*[]*int{&k.A, &k.PA, &k.B, &k.PB}[c.next(4)] = c.one(c.next(9), c.next(9), c.next(6), c.wide())
		hold(t, x)
		if May(x) {
			still++
		}
	}
	if still < rounds/20 || still > rounds/2 {
		t.Errorf("of %d turned topologies %d may be: too few or too many to tell by", rounds, still)
	}
}

// P11.3

func TestFarAndBack(t *testing.T) {
	c := counter(4)
	for range 3000 {
		x := c.good(c.next(6)+1, c.next(8)+1, c.next(13))
		joined := 0
		for sw := range x.Switches {
			for port := range x.Ports {
				s, p, is := Far(x, sw, port)
				if !is {
					continue
				}
				joined++
				if bs, bp, back := Far(x, s, p); bs != sw || bp != port || !back {
					t.Fatalf("%+v: from %d's %d to %d's %d, and back to %d's %d, %v", x, sw, port, s, p, bs, bp, back)
				}
				if s == sw && p == port {
					t.Fatalf("%+v: %d's %d is far from itself", x, sw, port)
				}
				if Edge(x, sw, port) || Edge(x, s, p) {
					t.Fatalf("%+v: %d's %d is joined, and leads out", x, sw, port)
				}
			}
		}
		if joined != 2*len(x.Links) || len(Edges(x)) != x.Switches*x.Ports-joined {
			t.Fatalf("%+v: %d ports are joined, %d lead out", x, joined, len(Edges(x)))
		}
	}
}

func TestFarAndBackOfFull(t *testing.T) { // 12 links; at each size of net
	c := counter(5)
	for switches := 1; switches <= 6; switches++ {
		for ports := 1; ports <= 8; ports++ {
			x := c.good(switches, ports, 12)
			if want := min(12, switches*ports/2); len(x.Links) != want || !May(x) {
				t.Fatalf("%+v: %d links, want %d; may be: %v", x, len(x.Links), want, May(x))
			}
			for _, k := range x.Links {
				if s, p, is := Far(x, k.A, k.PA); s != k.B || p != k.PB || !is {
					t.Errorf("%+v: Far of %d's %d: %d's %d, %v", x, k.A, k.PA, s, p, is)
				}
				if s, p, is := Far(x, k.B, k.PB); s != k.A || p != k.PA || !is {
					t.Errorf("%+v: Far of %d's %d: %d's %d, %v", x, k.B, k.PB, s, p, is)
				}
			}
		}
	}
}

// P1, R1, R3, R5

func TestManyLinks(t *testing.T) { // far more than may be: all calls end
	x := topo(2, 2, slices.Repeat([]api.Link{link(0, 0, 9, 9)}, 100000)...)
	x.Links = append(x.Links, link(1, 1, 0, 1))
	hold(t, topo(2, 2, x.Links[len(x.Links)-20:]...))
	if May(x) || len(Edges(x)) != 1 || !Edge(x, 1, 0) {
		t.Errorf("May %v, Edges %v", May(x), Edges(x))
	}
	if s, p, is := Far(x, 0, 1); s != 1 || p != 1 || !is {
		t.Errorf("Far of the last one: %d, %d, %v", s, p, is)
	}
}

func TestWhatIsHandedInStays(t *testing.T) {
	c := counter(6)
	for range 500 {
		x := c.any()
		whole := append(slices.Clone(x.Links), link(1, 1, 1, 1), link(2, 2, 2, 2)) // what stands behind the end
		x.Links = whole[:len(x.Links)]
		before, links := x, slices.Clone(whole)
		hold(t, x)
		if x.Switches != before.Switches || x.Ports != before.Ports || !slices.Equal(whole, links) {
			t.Fatalf("changed: %+v, was %+v", whole, links)
		}
	}
}

func TestWhatIsAnsweredIsOwn(t *testing.T) {
	x := topo(2, 2, link(0, 1, 1, 0))
	want := [][2]int{{0, 0}, {1, 1}}
	first := Edges(x)
	first[0], first[1] = [2]int{7, 7}, [2]int{8, 8}
	_ = append(first[:1], [2]int{9, 9})
	second := Edges(x)
	if !slices.Equal(second, want) {
		t.Errorf("asked again: %v, want %v", second, want)
	}
	x.Links[0] = link(0, 0, 1, 1)
	if !slices.Equal(second, want) {
		t.Errorf("after a change of what was handed in: %v, want %v", second, want)
	}
	if got := Edges(x); !slices.Equal(got, [][2]int{{0, 1}, {1, 0}}) {
		t.Errorf("of other links: %v", got)
	}
}

func TestAskedInAnyOrder(t *testing.T) { // no answer hangs on what was asked before, nor on how a map is gone through
	c := counter(7)
	bad := topo(6, 8, append(row(11), link(0, 7, 9, 9))...)
	good := topo(6, 8, row(12)...)
	for range 500 {
		if May(bad) || !May(good) {
			t.Fatal("another answer")
		}
		hold(t, c.any())
	}
}
