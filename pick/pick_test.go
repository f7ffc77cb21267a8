package pick

import (
	"fmt"
	"math"
	"math/big"
	"slices"
	"sort"
	"testing"

	"wayfinder/api"
)

// The model that the calls are held against divides addresses by powers of two, and gives each rule a text of digits; of two texts the lesser one is the rule's that stands first. It shares nothing with the calls.

func size(n int) int { return 1 << (32 - n) }

func fitsModel(r api.Rule, in, dst int) bool {
	p := r.P
	if p.Len < 0 || p.Len > 32 || p.Addr < 0 || p.Addr >= 1<<32 || p.Addr%size(p.Len) != 0 {
		return false
	}
	addr := int(uint32(dst)) // of any number the last 32 bits
	return addr/size(p.Len) == p.Addr/size(p.Len) && (r.In == -1 || r.In == in)
}

// digits are as many for each int, and rise with it.
func digits(n int) string {
	shifted := new(big.Int).Add(big.NewInt(int64(n)), new(big.Int).Lsh(big.NewInt(1), 63))
	return fmt.Sprintf("%020s.", shifted)
}

// fall are digits that fall when n rises: the complement of n, whose difference does not wrap.
func fall(n int) string { return digits(^n) }

// rank is the lesser, the more a rule is ahead; even, where neither of two is.
func rank(r api.Rule) string { return fall(r.P.Len) + fall(r.Prio) + fall(r.In) }

func place(r api.Rule) string {
	return rank(r) + digits(r.P.Addr) + digits(r.Act.Kind) + digits(r.Act.Port)
}

func firstModel(l []api.Rule, in, dst int) int {
	var ranks []string
	for _, r := range l {
		if fitsModel(r, in, dst) {
			ranks = append(ranks, rank(r))
		}
	}
	if len(ranks) == 0 {
		return -1
	}
	least := slices.Min(ranks)
	return slices.IndexFunc(l, func(r api.Rule) bool { return fitsModel(r, in, dst) && rank(r) == least })
}

func orderModel(l []api.Rule) []api.Rule {
	type placed struct {
		text string
		r    api.Rule
	}
	var all []placed
	for i, r := range l {
		all = append(all, placed{place(r) + digits(i), r})
	}
	sort.Slice(all, func(i, j int) bool { return all[i].text < all[j].text })
	var out []api.Rule
	for _, p := range all {
		out = append(out, p.r)
	}
	return out
}

const ten = 10 << 24

func forward(addr, n, in, prio, port int) api.Rule {
	return api.Rule{P: api.Prefix{Addr: addr, Len: n}, In: in, Prio: prio, Act: api.Action{Kind: api.Forward, Port: port}}
}

func drop(addr, n, in, prio int) api.Rule {
	return api.Rule{P: api.Prefix{Addr: addr, Len: n}, In: in, Prio: prio}
}

// counter makes numbers from a number, the same ones each time.
type counter uint64

func (c *counter) next(below int) int {
	*c = *c*6364136223846793005 + 1442695040888963407
	return int(uint64(*c)>>31) % below
}

// far is a number that hardly any field may be.
func (c *counter) far() int {
	l := []int{math.MaxInt, math.MinInt, math.MaxInt - 1, math.MinInt + 1, -1, -2, 8, 33, 256, 1 << 32, 1<<32 + ten, -1 << 32, 1 << 40}
	return l[c.next(len(l))]
}

func (c *counter) addr() int {
	return []int{0, ten, ten + 1, ten | 1<<16, ten | 1<<16 | 5, 11 << 24, 1 << 31, 1<<32 - 1}[c.next(8)]
}

// rule is one of few, so that prefixes are within each other, and many are even.
func (c *counter) rule() api.Rule {
	n := []int{0, 7, 8, 16, 31, 32}[c.next(6)]
	r := drop(c.addr()/size(n)*size(n), n, max(c.next(6)-3, -1), c.next(3))
	if c.next(3) > 0 {
		r.Act = api.Action{Kind: api.Forward, Port: c.next(3)}
	}
	return r
}

// wrong is a rule of which one number is most often such as may not be.
func (c *counter) wrong() api.Rule {
	r := c.rule()
	n := c.far()
	*[]*int{&r.P.Addr, &r.P.Len, &r.In, &r.Prio, &r.Act.Kind, &r.Act.Port}[c.next(6)] = n
	return r
}

func (c *counter) rules() []api.Rule {
	var l []api.Rule
	for range c.next(16) {
		switch c.next(8) {
		case 0:
			l = append(l, c.wrong())
		case 1:
			if len(l) > 0 {
				l = append(l, l[c.next(len(l))])
			}
		default:
			l = append(l, c.rule())
		}
	}
	return l
}

// packet is where one comes from and goes to, at times neither may be.
func (c *counter) packet() (in, dst int) {
	in, dst = c.next(4)-1, c.addr()+c.next(3)-1
	switch c.next(8) {
	case 0:
		in = c.far()
	case 1:
		dst = c.far()
	}
	return in, dst
}

// orders calls with l in all orders, from a place on.
func orders(l []api.Rule, at int, call func([]api.Rule)) {
	if at >= len(l)-1 {
		call(slices.Clone(l))
		return
	}
	for i := at; i < len(l); i++ {
		l[at], l[i] = l[i], l[at]
		orders(l, at+1, call)
		l[at], l[i] = l[i], l[at]
	}
}

func TestFirstExample(t *testing.T) { // P8.1, the chapter's example
	l := []api.Rule{forward(ten, 8, -1, 0, 0), forward(ten|1<<16, 16, 2, 0, 1)}
	const dst = ten | 1<<16 | 2<<8 | 3
	if n := First(l, 2, dst); n != 1 {
		t.Errorf("from port 2: %d", n)
	}
	if n := First(l, 1, dst); n != 0 {
		t.Errorf("from port 1: %d", n)
	}
}

func TestFirstPlaces(t *testing.T) { // P8.1: the edges that it names
	wide, near := drop(0, 0, -1, 255), drop(ten, 32, -1, 0)
	for _, x := range []struct {
		name    string
		l       []api.Rule
		in, dst int
		want    int
	}{
		{"no rules", nil, 0, 0, -1},
		{"no rules, but a list", []api.Rule{}, 0, 0, -1},
		{"none fits: addresses", []api.Rule{drop(ten, 8, -1, 0), drop(11<<24, 8, -1, 0)}, 0, 12 << 24, -1},
		{"none fits: ports", []api.Rule{drop(0, 0, 1, 0), drop(0, 0, 2, 0)}, 0, ten, -1},
		{"just one fits", []api.Rule{drop(ten, 8, 1, 9), drop(11<<24, 8, -1, 9), drop(ten, 8, 2, 0)}, 2, ten, 2},
		{"what does not fit is not ahead", []api.Rule{drop(ten, 8, -1, 0), drop(ten, 32, 3, 255)}, 2, ten, 0},
		{"the longer prefix, behind", []api.Rule{wide, near}, 0, ten, 1},
		{"the longer prefix, first", []api.Rule{near, wide}, 0, ten, 0},
		{"the longer prefix is another one's", []api.Rule{wide, near}, 0, ten + 1, 0},
		{"the greater priority, behind", []api.Rule{drop(ten, 8, 7, 4), drop(ten, 8, -1, 5)}, 7, ten, 1},
		{"the greater priority, first", []api.Rule{drop(ten, 8, -1, 5), drop(ten, 8, 7, 4)}, 7, ten, 0},
		{"one port ahead of any, behind", []api.Rule{drop(ten, 8, -1, 5), drop(ten, 8, 0, 5)}, 0, ten, 1},
		{"one port ahead of any, first", []api.Rule{drop(ten, 8, 0, 5), drop(ten, 8, -1, 5)}, 0, ten, 0},
		{"even ones: the least number", []api.Rule{wide, forward(ten, 8, -1, 5, 7), drop(ten, 8, -1, 5), forward(ten, 8, -1, 5, 0)}, 0, ten, 1},
		{"the same twice", []api.Rule{wide, near, near}, 0, ten, 1},
		{"lengths 0 alone", []api.Rule{drop(0, 0, -1, 0), drop(0, 0, 3, 0)}, 3, 1<<32 - 1, 1},
		{"length 32 at the end", []api.Rule{drop(0, 0, -1, 0), drop(1<<32-1, 32, -1, 0)}, 3, 1<<32 - 1, 1},
	} {
		if got := First(x.l, x.in, x.dst); got != x.want {
			t.Errorf("%s: %d, want %d", x.name, got, x.want)
		}
	}
}

func TestFirstOfWrong(t *testing.T) { // P8.1, R1: fitting and being ahead are told of rules that may not be, too
	good := drop(ten, 8, -1, 0)
	for _, x := range []struct {
		name    string
		l       []api.Rule
		in, dst int
		want    int
	}{
		{"a prefix beyond its Len", []api.Rule{drop(ten+1, 8, -1, 9)}, 0, ten + 1, -1},
		{"Len 33", []api.Rule{drop(ten, 33, -1, 9), good}, 0, ten, 1},
		{"Len -1", []api.Rule{drop(0, -1, -1, 9)}, 0, 0, -1},
		{"the greatest Len", []api.Rule{good, drop(0, math.MaxInt, -1, 9)}, 0, ten, 0},
		{"an Addr beyond its bound", []api.Rule{drop(1<<32+ten, 8, -1, 9), good}, 0, ten, 1},
		{"a Prio beyond its bound", []api.Rule{good, drop(ten, 8, -1, 256), drop(ten, 8, -1, math.MinInt)}, 0, ten, 1},
		{"a Prio below 0", []api.Rule{drop(ten, 8, -1, -1), good}, 0, ten, 1},
		{"an In beyond its bound", []api.Rule{good, drop(ten, 8, 8, 0)}, 8, ten, 1},
		{"an In below AnyPort", []api.Rule{drop(ten, 8, -2, 0)}, 3, ten, -1},
		{"an In below AnyPort, and so the port", []api.Rule{drop(ten, 8, -2, 0), good}, -2, ten, 1},
		{"a Kind that is none", []api.Rule{good, {P: good.P, In: 2, Act: api.Action{Kind: 9, Port: -4}}}, 2, ten, 1},
		{"a port below 0", []api.Rule{good, drop(ten, 8, 0, 0)}, -1, ten, 0},
		{"the least port", []api.Rule{drop(ten, 8, 0, 0), good}, math.MinInt, ten, 1},
		{"an address below 0", []api.Rule{drop(0, 1, -1, 0), drop(1<<31, 1, -1, 0)}, 0, -1, 1},
		{"an address beyond its bound", []api.Rule{drop(0, 0, -1, 0), good}, 0, 1<<32 + ten, 1},
		{"the greatest address", []api.Rule{good, drop(1<<32-1, 32, -1, 0)}, 0, math.MaxInt, 1},
	} {
		if got := First(x.l, x.in, x.dst); got != x.want {
			t.Errorf("%s: %d, want %d", x.name, got, x.want)
		}
	}
}

func TestFirstAgainstModel(t *testing.T) { // P8.1
	c := counter(1)
	none, later := 0, 0
	const rounds = 8000
	for range rounds {
		l := c.rules()
		in, dst := c.packet()
		got, want := First(l, in, dst), firstModel(l, in, dst)
		if got != want {
			t.Fatalf("First(%+v, %d, %d) = %d, want %d", l, in, dst, got, want)
		}
		if want < 0 {
			none++
		}
		if want > 0 {
			later++
		}
	}
	if none < rounds/20 || none > rounds/2 || later < rounds/3 {
		t.Errorf("of %d none fits at %d, and a later one counts at %d: too few or too many to tell by", rounds, none, later)
	}
}

func TestFirstInAllOrders(t *testing.T) { // P8.1: what counts does not hang on the order of rules that are not even
	l := []api.Rule{
		drop(0, 0, -1, 9), drop(ten, 8, -1, 0), drop(ten, 8, -1, 3), drop(ten, 8, 1, 3), forward(ten|1<<16, 16, 2, 0, 1), forward(11<<24, 8, 1, 255, 7),
	}
	orders(slices.Clone(l), 0, func(m []api.Rule) {
		for _, x := range []struct {
			in, dst int
			want    api.Rule
		}{
			{2, ten | 1<<16, l[4]}, {1, ten | 1<<16, l[3]}, {0, ten | 1<<16, l[2]}, {1, 11 << 24, l[5]}, {2, 11 << 24, l[0]},
		} {
			n := First(m, x.in, x.dst)
			if n < 0 || n >= len(m) || m[n] != x.want {
				t.Fatalf("First(%+v, %d, %d) = %d, which is not %+v", m, x.in, x.dst, n, x.want)
			}
		}
	})
}

func TestOrderOfAllOrders(t *testing.T) { // P8.2: one thing after the other tells rules apart
	for _, x := range []struct {
		name string
		want []api.Rule
	}{
		{"Len", []api.Rule{drop(ten, 32, -1, 0), drop(ten, 31, 7, 255), drop(0, 1, 7, 255), drop(0, 0, 7, 255)}},
		{"Prio", []api.Rule{drop(ten, 8, -1, 255), drop(ten, 8, 7, 254), drop(ten, 8, 7, 1), drop(ten, 8, 7, 0)}},
		{"In", []api.Rule{drop(ten, 8, 7, 5), drop(0, 8, 1, 5), drop(0, 8, 0, 5), drop(0, 8, -1, 5)}},
		{"Addr", []api.Rule{forward(0, 8, 2, 5, 7), forward(ten, 8, 2, 5, 6), forward(11<<24, 8, 2, 5, 1), drop(255<<24, 8, 2, 5)}},
		{"Kind", []api.Rule{drop(ten, 8, 2, 5), forward(ten, 8, 2, 5, 0)}},
		{"Kind ahead of Port", []api.Rule{{Act: api.Action{Kind: -1, Port: 9}}, {Act: api.Action{Kind: 0, Port: 5}}, {Act: api.Action{Kind: 1, Port: 4}}, {Act: api.Action{Kind: 2, Port: -3}}}},
		{"Port", []api.Rule{forward(ten, 8, 2, 5, 0), forward(ten, 8, 2, 5, 1), forward(ten, 8, 2, 5, 6), forward(ten, 8, 2, 5, 7)}},
		{"the same twice", []api.Rule{drop(ten, 8, 3, 0), drop(ten, 8, 2, 0), drop(ten, 8, 2, 0), drop(ten, 8, 1, 0)}},
		{"numbers whose difference wraps, Len", []api.Rule{drop(0, math.MaxInt, 0, 0), drop(0, 0, 0, 0), drop(0, math.MinInt, 0, 0)}},
		{"numbers whose difference wraps, Prio", []api.Rule{drop(0, 0, 0, math.MaxInt), drop(0, 0, 0, -1), drop(0, 0, 0, math.MinInt)}},
		{"numbers whose difference wraps, In", []api.Rule{drop(0, 0, math.MaxInt, 0), drop(0, 0, 1, 0), drop(0, 0, math.MinInt, 0)}},
		{"numbers whose difference wraps, Addr", []api.Rule{drop(math.MinInt, 0, 0, 0), drop(-1, 0, 0, 0), drop(0, 0, 0, 0), drop(math.MaxInt, 0, 0, 0)}},
		{"numbers whose difference wraps, Kind", []api.Rule{{Act: api.Action{Kind: math.MinInt}}, {Act: api.Action{Kind: 1}}, {Act: api.Action{Kind: math.MaxInt}}}},
		{"numbers whose difference wraps, Port", []api.Rule{forward(0, 0, 0, 0, math.MinInt), forward(0, 0, 0, 0, 1), forward(0, 0, 0, 0, math.MaxInt)}},
		{"one", []api.Rule{drop(ten, 8, 2, 5)}},
		{"none", nil},
	} {
		orders(slices.Clone(x.want), 0, func(l []api.Rule) {
			if got := Order(l); !slices.Equal(got, x.want) {
				t.Errorf("%s: Order(%+v) = %+v, want %+v", x.name, l, got, x.want)
			}
		})
	}
}

func TestOrderAgainstModel(t *testing.T) { // P8.2
	c := counter(2)
	for range 4000 {
		l := c.rules()
		if got, want := Order(l), orderModel(l); !slices.Equal(got, want) {
			t.Fatalf("Order(%+v) = %+v, want %+v", l, got, want)
		}
	}
}

func TestOrderOfMany(t *testing.T) { // P8.2: of more rules than any table has
	c := counter(3)
	for _, n := range []int{40, 41, 500, 3000} {
		var l []api.Rule
		for range n {
			l = append(l, c.wrong(), c.rule())
		}
		if got, want := Order(l), orderModel(l); !slices.Equal(got, want) {
			t.Errorf("of %d rules the order is another one", len(l))
		}
	}
}

func TestFirstOfOrder(t *testing.T) { // P8.3
	c := counter(4)
	moved, none := 0, 0
	const rounds = 6000
	for range rounds {
		l := c.rules()
		in, dst := c.packet()
		o := Order(l)
		fits := slices.IndexFunc(o, func(r api.Rule) bool { return fitsModel(r, in, dst) })
		counts := First(l, in, dst)
		if (fits < 0) != (counts < 0) {
			t.Fatalf("of %+v, from %d to %d: %d in order, but %d counts", l, in, dst, fits, counts)
		}
		if n := First(o, in, dst); n != fits {
			t.Fatalf("First(%+v, %d, %d) = %d, but the first one that fits is %d", o, in, dst, n, fits)
		}
		if fits < 0 {
			none++
			continue
		}
		if rank(o[fits]) != rank(l[counts]) {
			t.Fatalf("of %+v, from %d to %d: %+v is first in order, but %+v counts", l, in, dst, o[fits], l[counts])
		}
		if fits != counts {
			moved++
		}
	}
	if moved < rounds/5 || none > rounds/2 {
		t.Errorf("of %d the first one moved at %d, none fits at %d: too few or too many to tell by", rounds, moved, none)
	}
}

func TestRulesStay(t *testing.T) { // R3
	l := []api.Rule{drop(0, 0, -1, 0), forward(ten, 8, -1, 5, 2), drop(ten, 8, 3, 5), drop(ten, 32, -1, 0), drop(ten, 8, 3, 5)}
	room := append(make([]api.Rule, 0, 9), l...)
	before := slices.Clone(room[:cap(room)])
	First(room, 3, ten)
	o := Order(room)
	if !slices.Equal(room[:cap(room)], before) {
		t.Error("the rules do not stand as they stood")
	}
	kept := slices.Clone(o)
	for i := range o {
		o[i].Prio = 99
	}
	o = append(o, drop(1, 32, 1, 1))
	if !slices.Equal(room[:cap(room)], before) {
		t.Error("what is told is not the caller's own")
	}
	if again := Order(room); !slices.Equal(again, kept) {
		t.Error("asked again, it tells another order")
	}
	for i := range room {
		room[i] = api.Rule{}
	}
	if o[0].Prio != 99 || o[0].P.Len != 32 {
		t.Error("what was told changes with the rules")
	}
}

func TestOrderedStaysOrdered(t *testing.T) { // P8.2, R3: also where nothing is to be moved, the answer is new
	l := []api.Rule{drop(ten, 8, -1, 0), drop(0, 0, -1, 0)}
	o := Order(l)
	if !slices.Equal(o, l) {
		t.Fatalf("Order(%+v) = %+v", l, o)
	}
	o[0].Prio, o[1].Prio = 7, 8
	if l[0].Prio != 0 || l[1].Prio != 0 {
		t.Error("an ordered list is handed back as it is")
	}
}
