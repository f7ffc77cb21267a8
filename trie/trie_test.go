package trie

import (
	"math"
	"slices"
	"strconv"
	"strings"
	"testing"

	"wayfinder/api"
)

// The model that a Trie is held against works on the texts of prefixes' bits, and makes the nodes of all pairs anew each time, so that it shares neither bits nor joining with it.

// text is the bits of a prefix that may be.
func text(p api.Prefix) string { return digits(p.Addr)[:p.Len] }

func digits(addr int) string {
	s := strconv.FormatUint(uint64(uint32(addr)), 2)
	return strings.Repeat("0", 32-len(s)) + s
}

func may(p api.Prefix) bool {
	return p.Len >= 0 && p.Len <= 32 && p.Addr >= 0 && p.Addr <= api.MaxAddr && !strings.Contains(digits(p.Addr)[p.Len:], "1")
}

type model struct {
	room int
	told map[string]api.Entry
}

func newModel(room int) *model {
	return &model{room: min(max(room, 0), 1000), told: map[string]api.Entry{}}
}

// nodesOf is the texts of THE NODES of prefixes.
func nodesOf(l []string) map[string]int {
	nodes := map[string]int{}
	for _, a := range l {
		nodes[a]++
		for _, b := range l {
			if strings.HasPrefix(a, b) || strings.HasPrefix(b, a) {
				continue
			}
			n := 0
			for a[n] == b[n] {
				n++
			}
			nodes[a[:n]]++
		}
	}
	return nodes
}

func (m *model) texts() []string {
	var l []string
	for s := range m.told {
		l = append(l, s)
	}
	return l
}

func (m *model) put(p api.Prefix, value int) api.Errno {
	if !may(p) {
		return api.ErrArg
	}
	if len(nodesOf(append(m.texts(), text(p)))) > m.room {
		return api.ErrFull
	}
	m.told[text(p)] = api.Entry{P: p, Value: value}
	return api.OK
}

func (m *model) cut(p api.Prefix) api.Errno {
	if !may(p) {
		return api.ErrArg
	}
	if _, is := m.told[text(p)]; !is {
		return api.ErrNone
	}
	delete(m.told, text(p))
	return api.OK
}

func (m *model) find(addr int) (api.Entry, bool) {
	d := digits(addr)
	for n := 32; n >= 0; n-- {
		if e, is := m.told[d[:n]]; is {
			return e, true
		}
	}
	return api.Entry{}, false
}

func (m *model) walk() []api.Entry {
	var l []api.Entry
	for _, e := range m.told {
		l = append(l, e)
	}
	slices.SortFunc(l, func(a, b api.Entry) int {
		if a.P.Addr != b.P.Addr {
			return a.P.Addr - b.P.Addr
		}
		return a.P.Len - b.P.Len
	})
	return l
}

// asked is the ends of what the model has and the addresses beside them, ordinary ones, and numbers that are none.
func (m *model) asked() []int {
	l := []int{0, 1, 10 << 24, 167838211, 1<<31 - 1, 1 << 31, api.MaxAddr, -1, -1 << 32, 1 << 32, 1<<32 | 167838211, math.MinInt, math.MaxInt}
	for _, e := range m.told {
		last := e.P.Addr + 1<<(32-e.P.Len) - 1
		l = append(l, e.P.Addr-1, e.P.Addr, last, last+1, e.P.Addr|1<<40, last-1<<33)
	}
	return l
}

// holds asks a Trie for all that it may be asked for.
func (m *model) holds(t *testing.T, x *Trie) {
	t.Helper()
	if got, want := x.Nodes(), len(nodesOf(m.texts())); got != want {
		t.Fatalf("Nodes() = %d, want %d, of %v", got, want, m.walk())
	}
	if got, want := x.Walk(), m.walk(); !slices.Equal(got, want) {
		t.Fatalf("Walk() = %v, want %v", got, want)
	}
	for _, addr := range m.asked() {
		got, is := x.Find(addr)
		if want, wantIs := m.find(addr); got != want || is != wantIs {
			t.Fatalf("Find(%d) = %v, %v; want %v, %v; of %v", addr, got, is, want, wantIs, m.walk())
		}
	}
}

// both are a Trie and its model, told the same.
type both struct {
	t *testing.T
	x *Trie
	m *model
}

func start(t *testing.T, room int) both { return both{t, New(room), newModel(room)} }

func (b both) put(p api.Prefix, value int) api.Errno {
	b.t.Helper()
	e := b.x.Put(p, value)
	if want := b.m.put(p, value); e != want {
		b.t.Fatalf("Put(%v, %d) = %d, want %d; of %v in room %d", p, value, e, want, b.m.walk(), b.m.room)
	}
	return e
}

func (b both) cut(p api.Prefix) api.Errno {
	b.t.Helper()
	e := b.x.Cut(p)
	if want := b.m.cut(p); e != want {
		b.t.Fatalf("Cut(%v) = %d, want %d; of %v", p, e, want, b.m.walk())
	}
	return e
}

func (b both) hold() { b.t.Helper(); b.m.holds(b.t, b.x) }

// told is a Put that must be well, and leave so many nodes.
func (b both) told(p api.Prefix, value, nodes int) {
	b.t.Helper()
	if e := b.put(p, value); e != api.OK || b.x.Nodes() != nodes {
		b.t.Fatalf("Put(%v, %d) = %d, and %d nodes; want %d", p, value, e, b.x.Nodes(), nodes)
	}
	b.hold()
}

// gone is a Cut that must be well, and leave so many nodes.
func (b both) gone(p api.Prefix, nodes int) {
	b.t.Helper()
	if e := b.cut(p); e != api.OK || b.x.Nodes() != nodes {
		b.t.Fatalf("Cut(%v) = %d, and %d nodes; want %d", p, e, b.x.Nodes(), nodes)
	}
	b.hold()
}

// refused is a Put that there is no room for, and that changes nothing.
func (b both) refused(p api.Prefix) {
	b.t.Helper()
	if e := b.put(p, 12345); e != api.ErrFull {
		b.t.Fatalf("Put(%v) = %d, want ErrFull", p, e)
	}
	b.hold()
}

func prefix(addr, n int) api.Prefix { return api.Prefix{Addr: addr, Len: n} }

// dotted is a prefix of an address in four parts.
func dotted(a, b, c, d, n int) api.Prefix { return prefix(a<<24|b<<16|c<<8|d, n) }

// counter makes numbers from a number, the same ones each time.
type counter uint64

func (c *counter) next(below int) int {
	*c = *c*6364136223846793005 + 1442695040888963407
	return int(uint64(*c)>>33) % below
}

// shuffled is a list in an order of the counter's.
func (c *counter) shuffled(l []api.Prefix) []api.Prefix {
	l = slices.Clone(l)
	for i := range l {
		k := i + c.next(len(l)-i)
		l[i], l[k] = l[k], l[i]
	}
	return l
}

// near is a prefix of few bits, at the beginning or at the end of addresses, so that many are within each other or the same.
func (c *counter) near() api.Prefix {
	head := c.next(8) << 29
	switch c.next(3) {
	case 0:
		n := c.next(4)
		return prefix(head>>(32-n)<<(32-n), n)
	case 1:
		n := 29 + c.next(4)
		return prefix((head|c.next(8))>>(32-n)<<(32-n), n)
	}
	n := c.next(33)
	return prefix((head|c.next(1<<29))>>(32-n)<<(32-n), n)
}

// wrong are prefixes that may not be.
func wrong() []api.Prefix {
	return []api.Prefix{
		{Addr: 1, Len: 8}, {Addr: 10<<24 | 1<<15, Len: 16}, {Addr: 1, Len: 0}, {Addr: 1, Len: 31}, {Addr: api.MaxAddr, Len: 31}, {Addr: 1 << 31, Len: 0},
		{Len: -1}, {Len: 33}, {Addr: 7, Len: 33}, {Len: math.MinInt}, {Len: math.MaxInt}, {Len: 1 << 32},
		{Addr: -1, Len: 32}, {Addr: -1, Len: 0}, {Addr: 1 << 32, Len: 0}, {Addr: 1 << 32, Len: 32}, {Addr: 1<<32 | 10<<24, Len: 8}, {Addr: -1 << 31, Len: 1},
		{Addr: math.MinInt, Len: 0}, {Addr: math.MaxInt, Len: 32}, {Addr: -1, Len: -1}, {Addr: math.MinInt, Len: math.MinInt},
	}
}

func TestChapterExample(t *testing.T) { // P7.1, P7.2
	x := New(10)
	for _, y := range []struct {
		p            api.Prefix
		value, nodes int
	}{{dotted(10, 0, 0, 0, 8), 1, 1}, {dotted(10, 1, 0, 0, 16), 2, 2}, {dotted(11, 0, 0, 0, 8), 3, 4}} {
		if e := x.Put(y.p, y.value); e != api.OK || x.Nodes() != y.nodes {
			t.Errorf("Put(%v) = %d, and %d nodes", y.p, e, x.Nodes())
		}
	}
	for _, y := range []struct {
		addr int
		want api.Entry
		is   bool
	}{
		{167838211, api.Entry{P: dotted(10, 1, 0, 0, 16), Value: 2}, true},
		{10<<24 | 2<<16, api.Entry{P: dotted(10, 0, 0, 0, 8), Value: 1}, true},
		{11<<24 | 1, api.Entry{P: dotted(11, 0, 0, 0, 8), Value: 3}, true},
		{9<<24 | 255, api.Entry{}, false},
		{12 << 24, api.Entry{}, false},
	} {
		if got, is := x.Find(y.addr); got != y.want || is != y.is {
			t.Errorf("Find(%d) = %v, %v", y.addr, got, is)
		}
	}
	want := []api.Entry{{P: dotted(10, 0, 0, 0, 8), Value: 1}, {P: dotted(10, 1, 0, 0, 16), Value: 2}, {P: dotted(11, 0, 0, 0, 8), Value: 3}}
	if got := x.Walk(); !slices.Equal(got, want) {
		t.Errorf("Walk() = %v", got)
	}
	// the fourth node is 10.0.0.0/7, so telling of it needs none
	if e := x.Put(dotted(10, 0, 0, 0, 7), 4); e != api.OK || x.Nodes() != 4 {
		t.Errorf("Put of the joining node = %d, and %d nodes", e, x.Nodes())
	}
}

// P7.1: how much room there is.

func TestRoomOfNoNodes(t *testing.T) {
	for _, room := range []int{math.MinInt, -1000, -2, -1, 0} {
		b := start(t, room)
		b.hold()
		for _, p := range []api.Prefix{{}, {Len: 32}, dotted(10, 0, 0, 0, 8), {Addr: api.MaxAddr, Len: 32}} {
			b.refused(p)
			if e := b.cut(p); e != api.ErrNone {
				t.Errorf("Cut(%v) = %d", p, e)
			}
		}
	}
}

func TestRoomOfOneNode(t *testing.T) {
	b := start(t, 1)
	b.told(dotted(10, 0, 0, 0, 8), 1, 1)
	b.refused(dotted(10, 1, 0, 0, 16))
	b.refused(dotted(11, 0, 0, 0, 8))
	b.refused(prefix(0, 0))
	b.told(dotted(10, 0, 0, 0, 8), 2, 1)
	b.gone(dotted(10, 0, 0, 0, 8), 0)
	b.told(prefix(0, 0), 3, 1)
	b.refused(dotted(10, 0, 0, 0, 8))
	b.gone(prefix(0, 0), 0)
	b.told(prefix(api.MaxAddr, 32), 4, 1)
}

// TestRoomForOneMore has room for one node more, where two are needed.
func TestRoomForOneMore(t *testing.T) {
	b := start(t, 2)
	b.told(dotted(10, 0, 0, 0, 8), 1, 1)
	b.refused(dotted(11, 0, 0, 0, 8))
	b.told(dotted(10, 0, 0, 0, 7), 2, 2)
	b.refused(dotted(11, 0, 0, 0, 8))
	b = start(t, 3)
	b.told(dotted(10, 0, 0, 0, 8), 1, 1)
	b.told(dotted(10, 0, 0, 0, 7), 2, 2)
	b.told(dotted(11, 0, 0, 0, 8), 3, 3)
	b.refused(prefix(0, 0))
}

// TestRoomOfAThousand takes 500 addresses, which have 999 nodes, and one prefix above all of them.
func TestRoomOfAThousand(t *testing.T) {
	for _, room := range []int{999, 1000, 1001, 1002, 5000, 1 << 32, math.MaxInt} {
		x := New(room)
		for i := range 500 {
			if e := x.Put(prefix(i, 32), i); e != api.OK || x.Nodes() != 2*i+1 {
				t.Fatalf("room %d: Put of address %d = %d, and %d nodes", room, i, e, x.Nodes())
			}
		}
		want, nodes := api.OK, 1000
		if room == 999 {
			want, nodes = api.ErrFull, 999
		}
		if e := x.Put(prefix(0, 0), 1000); e != want || x.Nodes() != nodes {
			t.Fatalf("room %d: Put of the thousandth node = %d, and %d nodes", room, e, x.Nodes())
		}
		for _, p := range []api.Prefix{prefix(0, 1), prefix(0, 22), prefix(500, 32), prefix(1<<31, 32)} {
			if e := x.Put(p, 7); e != api.ErrFull || x.Nodes() != nodes {
				t.Errorf("room %d: Put(%v) beyond it = %d, and %d nodes", room, p, e, x.Nodes())
			}
		}
		for i := range 250 { // those that join two, and those that are told of already
			if x.Put(prefix(2*i, 31), -i) != api.OK || x.Put(prefix(2*i, 32), i) != api.OK || x.Nodes() != nodes {
				t.Fatalf("room %d: no Put of %d without a new node: %d nodes", room, 2*i, x.Nodes())
			}
		}
	}
}

// TestRoomOfAThousandAgain empties a full one and fills it anew.
func TestRoomOfAThousandAgain(t *testing.T) {
	x := New(1 << 20)
	for round := range 5 {
		base := round << 28
		for i := range 500 {
			if e := x.Put(prefix(base+i<<4, 28+round%5), i); e != api.OK {
				t.Fatalf("round %d: Put %d = %d", round, i, e)
			}
		}
		if x.Nodes() != 999 || len(x.Walk()) != 500 {
			t.Fatalf("round %d: %d nodes, %d told of", round, x.Nodes(), len(x.Walk()))
		}
		for i := range 500 {
			k := i * 7 % 500
			if e := x.Cut(prefix(base+k<<4, 28+round%5)); e != api.OK {
				t.Fatalf("round %d: Cut %d = %d", round, k, e)
			}
		}
		if x.Nodes() != 0 || len(x.Walk()) != 0 {
			t.Fatalf("round %d: %d nodes are left, and %v", round, x.Nodes(), x.Walk())
		}
	}
}

// groups are lists of prefixes with each way of being within each other, apart, or joined.
func groups() [][]api.Prefix {
	return [][]api.Prefix{
		{dotted(10, 0, 0, 0, 8)},
		{dotted(10, 0, 0, 0, 8), dotted(10, 1, 0, 0, 16)},
		{dotted(10, 0, 0, 0, 8), dotted(10, 1, 0, 0, 16), dotted(11, 0, 0, 0, 8)},
		{dotted(10, 0, 0, 0, 8), dotted(10, 1, 0, 0, 16), dotted(11, 0, 0, 0, 8), dotted(10, 0, 0, 0, 7)},
		{prefix(0, 0), prefix(0, 32), prefix(api.MaxAddr, 32)},
		{prefix(0, 32), prefix(api.MaxAddr, 32)},
		{prefix(0, 32), prefix(1, 32), prefix(2, 32), prefix(3, 32)},
		{prefix(0, 32), prefix(1, 32), prefix(0, 31), prefix(2, 31), prefix(0, 30)},
		{prefix(0, 1), prefix(1<<31, 1)},
		{prefix(0, 1), prefix(1<<31, 1), prefix(0, 0), prefix(1<<30, 2), prefix(3<<30, 2)},
		{prefix(0, 0), prefix(0, 1), prefix(0, 2), prefix(0, 31), prefix(0, 32)},
		{dotted(10, 0, 0, 0, 8), dotted(12, 0, 0, 0, 8), dotted(14, 0, 0, 0, 8), dotted(11, 0, 0, 0, 8), dotted(192, 168, 0, 0, 16)},
		{dotted(10, 0, 0, 0, 24), dotted(10, 0, 1, 0, 24), dotted(10, 0, 0, 0, 16), dotted(10, 0, 1, 7, 32), dotted(10, 0, 1, 6, 31)},
	}
}

// orders is all orders of a list.
func orders(l []api.Prefix) [][]api.Prefix {
	if len(l) == 0 {
		return [][]api.Prefix{nil}
	}
	var all [][]api.Prefix
	for i, p := range l {
		rest := append(slices.Clone(l[:i]), l[i+1:]...)
		for _, o := range orders(rest) {
			all = append(all, append([]api.Prefix{p}, o...))
		}
	}
	return all
}

func textsOf(l []api.Prefix) []string {
	var s []string
	for _, p := range l {
		s = append(s, text(p))
	}
	return s
}

// TestRoomThatIsNeeded gives one node fewer than there must be, as many, and one more, in all orders.
func TestRoomThatIsNeeded(t *testing.T) { // P7.1
	for _, l := range groups() {
		need := len(nodesOf(textsOf(l)))
		for _, o := range orders(l) {
			for _, room := range []int{need - 1, need, need + 1} {
				b := start(t, room)
				full := 0
				for i, p := range o {
					if b.put(p, i+1) == api.ErrFull {
						full++
					}
					b.hold()
				}
				if (full > 0) != (room < need) {
					t.Fatalf("%v in room %d, where %d are needed: %d were too much", o, room, need, full)
				}
			}
		}
	}
}

// P7.1: what Put and Cut do.

// TestToldAnew has a prefix told of as something else, where there is room and where there is none.
func TestToldAnew(t *testing.T) {
	for _, room := range []int{4, 5, 1000} {
		b := start(t, room)
		b.told(dotted(10, 0, 0, 0, 8), 1, 1)
		b.told(dotted(10, 1, 0, 0, 16), 2, 2)
		b.told(dotted(11, 0, 0, 0, 8), 3, 4)
		for i, p := range []api.Prefix{dotted(11, 0, 0, 0, 8), dotted(10, 0, 0, 0, 8), dotted(10, 1, 0, 0, 16), dotted(10, 0, 0, 0, 8)} {
			b.told(p, 10+i, 4)
			b.told(p, 10+i, 4)
		}
	}
}

// TestValues are all the same to a Trie: 0 is a value like others, and is told of.
func TestValues(t *testing.T) {
	b := start(t, 5)
	for _, value := range []int{0, 1, -1, math.MinInt, math.MaxInt, 0} {
		b.told(dotted(10, 0, 0, 0, 8), value, 1)
		want := api.Entry{P: dotted(10, 0, 0, 0, 8), Value: value}
		if got, is := b.x.Find(10 << 24); got != want || !is {
			t.Errorf("Find = %v, %v; want %v", got, is, want)
		}
	}
	b.told(prefix(0, 0), 0, 2) // all noughts, and yet told of
	if got, is := b.x.Find(0); got != (api.Entry{}) || !is {
		t.Errorf("Find = %v, %v", got, is)
	}
	b.gone(dotted(10, 0, 0, 0, 8), 1)
	if got, is := b.x.Find(10 << 24); got != (api.Entry{}) || !is {
		t.Errorf("Find = %v, %v", got, is)
	}
	b.gone(prefix(0, 0), 0)
	if _, is := b.x.Find(0); is {
		t.Error("Find tells of one that was cut")
	}
}

// TestJoiningNode has it stand, told of, cut and needed no more.
func TestJoiningNode(t *testing.T) {
	join, left, right := dotted(10, 0, 0, 0, 7), dotted(10, 0, 0, 0, 8), dotted(11, 0, 0, 0, 8)
	b := start(t, 3)
	b.told(left, 1, 1)
	b.told(right, 2, 3)
	if e := b.cut(join); e != api.ErrNone || b.x.Nodes() != 3 {
		t.Fatalf("Cut of one that only joins = %d, and %d nodes", e, b.x.Nodes())
	}
	b.told(join, 3, 3)
	b.gone(join, 3) // it stays, as one that joins
	if e := b.cut(join); e != api.ErrNone {
		t.Fatalf("Cut again = %d", e)
	}
	b.told(join, 4, 3)
	b.gone(left, 2) // told of, it stays with one below it
	b.gone(right, 1)
	b.told(right, 5, 2)
	b.told(left, 6, 3)
	b.gone(join, 3)
	b.gone(right, 1) // needed no more
	b.told(right, 7, 3)
	b.gone(left, 1)
	b.gone(right, 0)
}

// TestJoiningNodesAbove has joining nodes above joining nodes: just the one above what is cut goes.
func TestJoiningNodesAbove(t *testing.T) {
	b := start(t, 7)
	for i, nodes := range []int{1, 3, 5, 7} {
		b.told(prefix(i, 32), i, nodes)
	}
	b.gone(prefix(0, 32), 5)
	b.gone(prefix(3, 32), 3)
	b.told(prefix(3, 32), 9, 5)
	b.told(prefix(0, 30), 10, 5) // joined them, above another joining node
	b.gone(prefix(1, 32), 4)     // its joining node is told of, and stays
	b.told(prefix(0, 32), 11, 5)
	b.gone(prefix(0, 30), 5)
	b.gone(prefix(2, 32), 3)
	b.gone(prefix(0, 32), 1)
	b.gone(prefix(3, 32), 0)
}

// TestCutInTheMiddle takes out a node that has one below it and one above.
func TestCutInTheMiddle(t *testing.T) {
	a, m, z := dotted(10, 0, 0, 0, 8), dotted(10, 128, 0, 0, 16), dotted(10, 128, 7, 0, 24)
	for _, o := range orders([]api.Prefix{a, m, z}) {
		b := start(t, 3)
		for i, p := range o {
			b.told(p, i, i+1)
		}
		b.gone(m, 2)
		if e := b.cut(m); e != api.ErrNone {
			t.Errorf("Cut again = %d", e)
		}
		b.told(m, 5, 3)
		b.gone(a, 2)
		b.gone(m, 1)
		b.gone(z, 0)
	}
}

// TestSameAddress has all that an address begins with (of 0 the same Addr with all lengths), put and cut in several orders.
func TestSameAddress(t *testing.T) {
	c := counter(1)
	for _, addr := range []int{0, api.MaxAddr, 167838211, 1 << 31} {
		var l []api.Prefix
		for n := range 33 {
			l = append(l, prefix(addr>>(32-n)<<(32-n), n))
		}
		for range 4 {
			b := start(t, len(l))
			for i, p := range c.shuffled(l) {
				b.told(p, i, i+1)
			}
			for n := range l { // Find tells the longest that is left
				if e, is := b.x.Find(addr); !is || e.P.Len != 32-n {
					t.Fatalf("Find(%d) = %v, %v; want the length %d", addr, e, is, 32-n)
				}
				b.gone(l[32-n], 32-n)
			}
			for i, p := range c.shuffled(l) {
				b.told(p, i, i+1)
			}
			for i, p := range c.shuffled(l) {
				b.gone(p, len(l)-1-i)
			}
		}
	}
}

// TestLengthsAtTheEnds has the lengths 0 and 32 alone, and with each other.
func TestLengthsAtTheEnds(t *testing.T) {
	b := start(t, 5)
	b.told(prefix(api.MaxAddr, 32), 1, 1)
	for addr, want := range map[int]bool{api.MaxAddr: true, -1: true, math.MaxInt: true, 1<<33 - 1: true, api.MaxAddr - 1: false, 0: false, 1 << 32: false, math.MinInt: false} {
		if e, is := b.x.Find(addr); is != want || is && e.Value != 1 {
			t.Errorf("Find(%d) = %v, %v", addr, e, is)
		}
	}
	b.told(prefix(0, 32), 2, 3) // 0.0.0.0/0 joins them
	b.told(prefix(0, 0), 3, 3)
	for addr, want := range map[int]int{0: 2, 1: 3, api.MaxAddr - 1: 3, api.MaxAddr: 1, -1: 1, -2: 3, 1 << 32: 2, 1<<32 + 1: 3, math.MinInt: 2, math.MaxInt: 1} {
		if e, is := b.x.Find(addr); !is || e.Value != want {
			t.Errorf("Find(%d) = %v, %v", addr, e, is)
		}
	}
	b.told(prefix(1<<31, 32), 4, 5)
	b.gone(prefix(0, 0), 5)
	b.gone(prefix(0, 32), 3)
}

// P7.1, P7.2: a nil Trie and a zero one.

func TestNilAndZero(t *testing.T) {
	var zero Trie
	for _, x := range []*Trie{nil, &zero, {}} {
		for _, p := range []api.Prefix{{}, {Len: 32}, dotted(10, 0, 0, 0, 8), {Addr: api.MaxAddr, Len: 32}} {
			if e := x.Put(p, 1); e != api.ErrFull {
				t.Errorf("Put(%v) = %d, want ErrFull", p, e)
			}
			if e := x.Cut(p); e != api.ErrNone {
				t.Errorf("Cut(%v) = %d, want ErrNone", p, e)
			}
		}
		for _, p := range wrong() {
			if put, cut := x.Put(p, 1), x.Cut(p); put != api.ErrArg || cut != api.ErrArg {
				t.Errorf("Put and Cut of %v = %d, %d; want ErrArg", p, put, cut)
			}
		}
		newModel(0).holds(t, x)
	}
}

func TestWrongPrefixes(t *testing.T) { // P7.1: ErrArg, ahead of ErrFull and ErrNone, and nothing changes
	for _, room := range []int{0, 4, 10} {
		b := start(t, room)
		for i, p := range []api.Prefix{dotted(10, 0, 0, 0, 8), dotted(10, 1, 0, 0, 16), dotted(11, 0, 0, 0, 8)} {
			b.put(p, i)
		}
		for _, p := range wrong() {
			if put, cut := b.put(p, 9), b.cut(p); put != api.ErrArg || cut != api.ErrArg {
				t.Errorf("Put and Cut of %v = %d, %d; want ErrArg", p, put, cut)
			}
			b.hold()
		}
	}
}

func TestCutOfWhatIsNotTold(t *testing.T) { // P7.1: ErrNone, and nothing changes
	b := start(t, 10)
	for i, p := range []api.Prefix{dotted(10, 0, 0, 0, 8), dotted(10, 1, 0, 0, 16), dotted(11, 0, 0, 0, 8)} {
		b.told(p, i, []int{1, 2, 4}[i])
	}
	for _, p := range []api.Prefix{
		dotted(10, 0, 0, 0, 7), // joins two
		prefix(0, 0), dotted(10, 0, 0, 0, 9), dotted(10, 0, 0, 0, 16), dotted(10, 1, 0, 0, 17), dotted(10, 0, 0, 0, 15), dotted(10, 0, 0, 0, 32), dotted(8, 0, 0, 0, 6), dotted(12, 0, 0, 0, 8), prefix(api.MaxAddr, 32),
	} {
		if e := b.cut(p); e != api.ErrNone {
			t.Errorf("Cut(%v) = %d, want ErrNone", p, e)
		}
		b.hold()
	}
}

func TestFindTakesTheLast32Bits(t *testing.T) { // P7.2
	b := start(t, 10)
	b.told(dotted(10, 0, 0, 0, 8), 1, 1)
	b.told(dotted(10, 1, 0, 0, 16), 2, 2)
	for _, addr := range []int{167838211, 1<<32 | 167838211, 1<<62 | 167838211, 167838211 - 1<<32, math.MinInt + 167838211} {
		if e, is := b.x.Find(addr); !is || e.Value != 2 {
			t.Errorf("Find(%d) = %v, %v", addr, e, is)
		}
	}
	for _, addr := range []int{-1, -167838211, 1 << 32, math.MinInt, math.MaxInt, 10 << 32, 10 << 56} {
		if e, is := b.x.Find(addr); is || e != (api.Entry{}) {
			t.Errorf("Find(%d) = %v, %v; want noughts", addr, e, is)
		}
	}
}

func TestWalkInOrder(t *testing.T) { // P7.2: by rising Addr, of the same by rising Len
	b := start(t, 1000)
	c := counter(2)
	for i := range 150 {
		b.put(c.near(), i)
	}
	b.hold()
	l := b.x.Walk()
	for i := range l[1:] {
		p, q := l[i].P, l[i+1].P
		if p.Addr > q.Addr || p.Addr == q.Addr && p.Len >= q.Len {
			t.Errorf("%v stands ahead of %v", p, q)
		}
	}
}

// TestAgainstModel puts and cuts at random, in little room and in much.
func TestAgainstModel(t *testing.T) { // P7.1, P7.2
	c := counter(3)
	var puts, cuts [api.ErrOld + 1]int
	for _, room := range []int{1, 2, 3, 4, 5, 7, 10, 15, 20, 30, 1000} {
		for range 6 {
			b := start(t, room)
			for i := range 150 {
				p := c.near()
				if l := b.m.walk(); len(l) > 0 && c.next(3) == 0 {
					p = l[c.next(len(l))].P
				}
				switch c.next(5) {
				case 0, 1:
					cuts[b.cut(p)]++
				case 2:
					p.Addr ^= 1 << c.next(34) // mostly one that may not be
					p.Len += c.next(3) - 1
					puts[b.put(p, i)]++
				default:
					puts[b.put(p, i)]++
				}
				b.hold()
			}
		}
	}
	for _, n := range []int{puts[api.OK], puts[api.ErrArg], puts[api.ErrFull], cuts[api.OK], cuts[api.ErrNone]} {
		if n < 200 {
			t.Errorf("too few of a kind: Put %v, Cut %v", puts, cuts)
		}
	}
}

// P7.3.

// TestOrderDoesNotCount tells the same in all orders, with others told of between them and cut again.
func TestOrderDoesNotCount(t *testing.T) {
	for _, l := range groups() {
		values := map[api.Prefix]int{}
		want := newModel(1000)
		for i, p := range l {
			values[p] = i
			want.put(p, i)
		}
		c := counter(4)
		for _, o := range orders(l) {
			x := New(1000)
			for _, p := range o {
				q := c.near()
				_, had := values[q]
				if !had && x.Put(q, 77) != api.OK || x.Put(p, values[p]) != api.OK || !had && x.Cut(q) != api.OK {
					t.Fatalf("%v was not told of, or %v not for a while", p, q)
				}
			}
			want.holds(t, x)
			for _, p := range c.shuffled(l) { // cut, and told of anew
				if x.Cut(p) != api.OK || x.Put(p, values[p]) != api.OK {
					t.Fatalf("%v was not told of anew", p)
				}
			}
			want.holds(t, x)
		}
	}
}

func TestOrderOfManyDoesNotCount(t *testing.T) {
	c := counter(5)
	var l []api.Prefix
	want := newModel(1000)
	for range 120 {
		if p := c.near(); !slices.Contains(l, p) {
			l = append(l, p)
			want.put(p, p.Addr+p.Len)
		}
	}
	for range 20 {
		x := New(1000)
		for _, p := range c.shuffled(l) {
			x.Put(p, p.Addr+p.Len)
		}
		want.holds(t, x)
	}
}

func TestFewerThanTwiceAsManyNodes(t *testing.T) {
	c := counter(6)
	for range 20 {
		x := New(1000)
		for i := range 900 {
			if p := c.near(); c.next(5) == 0 {
				x.Cut(p)
			} else if e := x.Put(p, i); e == api.ErrFull && len(x.Walk()) <= 500 {
				t.Fatalf("Put(%v) = ErrFull, where %d are told of", p, len(x.Walk()))
			}
			if nodes, told := x.Nodes(), len(x.Walk()); nodes < told || told > 0 && nodes >= 2*told || told == 0 && nodes != 0 {
				t.Fatalf("%d nodes of %d prefixes", nodes, told)
			}
		}
	}
}

// R1 to R5.

func TestRoomComesBack(t *testing.T) { // P7.1: nothing of what was cut is in the way of what comes
	b := start(t, 5)
	c := counter(7)
	for range 3000 {
		l := []api.Prefix{prefix(c.next(1<<30), 32), prefix(1<<31|c.next(1<<20), 32), prefix(3<<30|c.next(1<<20), 32)}
		for i, p := range c.shuffled(l) {
			if e := b.put(p, i); e != api.OK {
				t.Fatalf("Put(%v) = %d", p, e)
			}
		}
		if b.x.Nodes() != 5 {
			t.Fatalf("%d nodes", b.x.Nodes())
		}
		for _, p := range c.shuffled(l) {
			if e := b.cut(p); e != api.OK {
				t.Fatalf("Cut(%v) = %d", p, e)
			}
		}
		b.hold()
	}
}

func TestAnswersAreOwn(t *testing.T) { // R3: an answer that was changed changes nothing, nor does a change change an answer
	b := start(t, 10)
	b.told(dotted(10, 0, 0, 0, 8), 1, 1)
	b.told(dotted(10, 1, 0, 0, 16), 2, 2)
	l := b.x.Walk()
	kept := slices.Clone(l)
	b.told(dotted(10, 0, 0, 0, 8), 5, 2)
	b.told(dotted(9, 0, 0, 0, 8), 6, 4)
	b.gone(dotted(10, 1, 0, 0, 16), 3)
	if !slices.Equal(l, kept) {
		t.Errorf("an answer became %v", l)
	}
	l = b.x.Walk()
	for i := range l {
		l[i] = api.Entry{P: prefix(0, 0), Value: -1}
	}
	_ = append(l, api.Entry{Value: -1})
	b.hold()
}

func TestTwoShareNothing(t *testing.T) { // R3, R5
	a, b := start(t, 20), start(t, 20)
	c := counter(8)
	for i := range 200 {
		a.put(c.near(), i)
		b.cut(c.near())
		b.put(c.near(), -i)
		a.cut(c.near())
		a.hold()
		b.hold()
	}
}

func TestAskingChangesNothing(t *testing.T) { // R5
	b := start(t, 20)
	c := counter(9)
	for i := range 40 {
		b.put(c.near(), i)
		for range 3 {
			b.hold()
		}
	}
}
