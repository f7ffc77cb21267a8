package digest

import (
	"bytes"
	"iter"
	"math"
	"slices"
	"testing"

	"wayfinder/api"
)

// The model that the calls are held against adds up whole words that it reckons from a rule's numbers, and takes the rest by 65535, so that it has no bytes, no order and no folding. It asks none of the packages that digest stands on.

func within(n, least, most int) bool { return least <= n && n <= most }

func mayModel(r api.Rule) bool {
	p, a := r.P, r.Act
	if !within(p.Len, 0, 32) || !within(p.Addr, 0, 1<<32-1) || p.Addr%(1<<(32-p.Len)) != 0 {
		return false
	}
	return within(r.In, -1, 7) && within(r.Prio, 0, 255) && (a == api.Action{} || a.Kind == 1 && within(a.Port, 0, 7))
}

// rest is of a number below 0, too, at least 0: the last 16 bits.
func rest(n int) int { return (n%65536 + 65536) % 65536 }

// sumModel: folding keeps the rest by 65535, and a total above 0 is never folded to 0.
func sumModel(words ...int) int {
	total := 0
	for _, w := range words {
		total += w
	}
	if total == 0 {
		return 65535
	}
	return 65535 - 1 - (total-1)%65535
}

func ofModel(tag int, l []api.Rule) int {
	words := []int{rest(tag)}
	for _, r := range l {
		if mayModel(r) {
			words = append(words, r.P.Addr/65536, r.P.Addr%65536, r.P.Len*256+r.In+1, r.Prio*256+r.Act.Kind, r.Act.Port*256)
		}
	}
	return sumModel(words...)
}

func allModel(l []api.Ver) int {
	var words []int
	for _, v := range l {
		words = append(words, ofModel(v.Tag, v.L))
	}
	return sumModel(words...)
}

const ten = 10 << 24

func forward(addr, n, in, prio, port int) api.Rule {
	return api.Rule{P: api.Prefix{Addr: addr, Len: n}, In: in, Prio: prio, Act: api.Action{Kind: api.Forward, Port: port}}
}

func drop(addr, n, in, prio int) api.Rule {
	return api.Rule{P: api.Prefix{Addr: addr, Len: n}, In: in, Prio: prio}
}

func ver(tag int, l ...api.Rule) api.Ver { return api.Ver{Tag: tag, L: l} }

// wrongRules are such as may not be, each for one thing.
func wrongRules() map[string]api.Rule {
	act := func(kind, port int) api.Rule { return api.Rule{In: -1, Act: api.Action{Kind: kind, Port: port}} }
	return map[string]api.Rule{
		"Addr below 0": drop(-1, 32, -1, 0), "Addr beyond": drop(1<<32, 0, -1, 0), "Addr beyond its Len": drop(ten+1, 8, -1, 0),
		"Len below 0": drop(0, -1, -1, 0), "Len beyond": drop(0, 33, -1, 0),
		"In below AnyPort": drop(ten, 8, -2, 0), "In beyond": drop(ten, 8, 8, 0),
		"Prio below 0": drop(ten, 8, -1, -1), "Prio beyond": drop(ten, 8, -1, 256),
		"Kind below 0": act(-1, 0), "Kind beyond": act(2, 0), "Port of a Drop": act(api.Drop, 1),
		"Port below 0": act(api.Forward, -1), "Port beyond": act(api.Forward, 8),
		"all at the least":    {P: api.Prefix{Addr: math.MinInt, Len: math.MinInt}, In: math.MinInt, Prio: math.MinInt, Act: api.Action{Kind: math.MinInt, Port: math.MinInt}},
		"all at the greatest": {P: api.Prefix{Addr: math.MaxInt, Len: math.MaxInt}, In: math.MaxInt, Prio: math.MaxInt, Act: api.Action{Kind: math.MaxInt, Port: math.MaxInt}},
	}
}

// orders tells of a list in each order that it may have.
func orders[T any](l []T, from int, tell func([]T)) {
	if from == len(l) {
		tell(slices.Clone(l))
		return
	}
	for i := from; i < len(l); i++ {
		l[from], l[i] = l[i], l[from]
		orders(l, from+1, tell)
		l[from], l[i] = l[i], l[from]
	}
}

// counter makes numbers from a number, the same ones each time.
type counter uint64

func (c *counter) next(below int) int {
	*c = *c*6364136223846793005 + 1442695040888963407
	return int(uint64(*c)>>31) % below
}

func (c *counter) one(l ...int) int { return l[c.next(len(l))] }

// from is often an edge.
func (c *counter) from(least, most int) int {
	switch c.next(4) {
	case 0:
		return least
	case 1:
		return most
	}
	return least + c.next(most-least+1)
}

func (c *counter) rule() api.Rule {
	n := c.from(0, 32)
	size := 1 << (32 - n)
	r := drop(c.from(0, 1<<32-1)/size*size, n, c.from(-1, 7), c.from(0, 255))
	if c.next(3) > 0 {
		r.Act = api.Action{Kind: api.Forward, Port: c.from(0, 7)}
	}
	return r
}

// wrong is a rule of which one number is most often such as may not be.
func (c *counter) wrong() api.Rule {
	r := c.rule()
	n := c.one(math.MinInt, math.MaxInt, -1, -2, 8, 33, 256, 65536, 1<<32, 1<<32+ten, 1<<40)
	*[]*int{&r.P.Addr, &r.P.Len, &r.In, &r.Prio, &r.Act.Kind, &r.Act.Port}[c.next(6)] = n
	return r
}

func (c *counter) rules(most int) []api.Rule {
	var l []api.Rule
	for range c.next(most + 1) {
		switch c.next(6) {
		case 0:
			l = append(l, c.wrong())
		case 1:
			l = append(l, c.rule())
			l = append(l, l[c.next(len(l))]) // the same twice
		default:
			l = append(l, c.rule())
		}
	}
	return l
}

func (c *counter) tag() int {
	return c.one(0, 1, 2, 3, 3, 4094, 4095, 4096, 32768, 65534, 65535, 65536, 65537, 1<<32+7, -1, -2, -65535, -65536, math.MinInt, math.MaxInt, c.next(4096), c.next(4096))
}

// table is one that Put and Drop of package table would hardly make: out of order, with tags twice, and without rules.
func (c *counter) table() []api.Ver {
	var l []api.Ver
	for range c.next(6) {
		l = append(l, ver(c.tag(), c.rules(4)...))
	}
	return l
}

// P10.1: Of

func TestOfTags(t *testing.T) { // the tag's last 16 bits, by themselves
	for _, x := range []struct{ tag, want int }{
		{1, 65534}, // the chapter's example
		{0, 65535}, {2, 65533}, {255, 65280}, {256, 65279}, {4095, 61440}, {4096, 61439},
		{32767, 32768}, {32768, 32767}, {65534, 1}, {65535, 0},
		{65536, 65535}, {65537, 65534}, {65536 + 4095, 61440}, {2*65536 - 1, 0}, {1 << 32, 65535}, {1<<32 + 1, 65534}, {1 << 62, 65535},
		{-1, 0}, {-2, 1}, {-4095, 4094}, {-65535, 65534}, {-65536, 65535}, {-65537, 0}, {-1 << 32, 65535},
		{math.MinInt, 65535}, {math.MinInt + 1, 65534}, {math.MaxInt, 0}, {math.MaxInt - 1, 1},
	} {
		for _, l := range [][]api.Rule{nil, {}, {drop(0, 33, -1, 0)}} {
			if got := Of(x.tag, l); got != x.want {
				t.Errorf("Of(%d, %+v) = %d, want %d", x.tag, l, got, x.want)
			}
		}
	}
}

func TestOfRules(t *testing.T) {
	a := forward(ten, 8, -1, 5, 2) // words 2560 0 2048 1281 512: 6401
	b := drop(ten|1<<16, 16, 2, 0) // words 2561 0 4099 0 0: 6660
	high := forward(1<<32-1, 32, 7, 255, 7)
	for _, x := range []struct {
		name string
		tag  int
		l    []api.Rule
		want int
	}{
		{"one that forwards, from any port", 1, []api.Rule{a}, 65535 - 1 - 6401},
		{"one that forwards, of tag 0", 0, []api.Rule{a}, 65535 - 6401},
		{"one that drops, from a port", 1, []api.Rule{b}, 65535 - 1 - 6660},
		{"two", 1, []api.Rule{a, b}, 65535 - 1 - 6401 - 6660},
		{"two, in the other order", 1, []api.Rule{b, a}, 65535 - 1 - 6401 - 6660},
		{"three, two of them the same", 4095, []api.Rule{a, b, a}, 65535 - 4095 - 6660 - 2*6401},
		{"two that stand alike, and forward to two ports", 1, []api.Rule{a, forward(ten, 8, -1, 5, 3)}, 65535 - 1 - 6401 - 6401 - 256},
		{"two that stand alike, of which one drops", 1, []api.Rule{a, drop(ten, 8, -1, 5)}, 65535 - 1 - 6401 - 6401 + 513},
		{"from any port, and from port 0", 1, []api.Rule{drop(ten, 8, -1, 0), drop(ten, 8, 0, 0)}, 65535 - 1 - 4608 - 4609},
		{"one whose bytes are noughts", 1, []api.Rule{drop(0, 0, -1, 0)}, 65534},
		{"the zero rule: from port 0", 1, []api.Rule{{}}, 65533},
		{"each byte at its greatest: 206343, and tag 1, are folded to 9739", 1, []api.Rule{high}, 65535 - 9739},
		{"tag 65535 is folded away where anything is with it", 65535, []api.Rule{a}, 65535 - 6401},
		{"73725, and tag 1, are folded to 8191", 1, []api.Rule{drop(65533<<16, 32, -1, 0)}, 65535 - 8191},
		{"a rule that may not be, alone", 1, []api.Rule{{In: 9}}, 65534},
		{"a rule that may not be, ahead", 1, []api.Rule{{In: 9}, a, b}, 65535 - 1 - 6401 - 6660},
		{"a rule that may not be, between", 1, []api.Rule{a, {In: 9}, b}, 65535 - 1 - 6401 - 6660},
		{"a rule that may not be, behind", 1, []api.Rule{a, b, {In: 9}}, 65535 - 1 - 6401 - 6660},
	} {
		if got := Of(x.tag, x.l); got != x.want {
			t.Errorf("%s: Of(%d, %+v) = %d, want %d", x.name, x.tag, x.l, got, x.want)
		}
		if want := ofModel(x.tag, x.l); want != x.want {
			t.Errorf("%s: the model errs: %d, want %d", x.name, want, x.want)
		}
	}
}

func TestOfSaysNought(t *testing.T) { // a total of just 65535 is told as 0, and not folded to 65535
	l := []api.Rule{drop(0xc000<<16, 8, -1, 0)} // words 49152 0 2048 0 0
	if got := Of(65535-49152-2048, l); got != 0 {
		t.Errorf("Of = %d, want 0", got)
	}
	if got := Of(65535-49152-2048+1, l); got != 65534 {
		t.Errorf("Of of one more = %d, want 65534", got)
	}
}

func TestOfWrongRules(t *testing.T) { // what may not be does not count
	good := []api.Rule{forward(ten, 8, -1, 5, 2), drop(0, 0, 3, 0), forward(ten|1<<16, 16, 2, 0, 1)}
	var all []api.Rule
	for name, r := range wrongRules() {
		all = append(all, r)
		if mayModel(r) {
			t.Fatalf("%s: the model errs", name)
		}
		if got := Of(7, []api.Rule{r}); got != 65535-7 {
			t.Errorf("%s, alone: %d, want %d", name, got, 65535-7)
		}
		want := ofModel(7, good)
		for i := range len(good) + 1 {
			if got := Of(7, slices.Insert(slices.Clone(good), i, r)); got != want {
				t.Errorf("%s, at %d: %d, want %d", name, i, got, want)
			}
		}
	}
	if got := Of(7, all); got != 65535-7 {
		t.Errorf("nothing but wrong rules: %d, want %d", got, 65535-7)
	}
	if got, want := Of(7, append(all, good...)), ofModel(7, good); got != want {
		t.Errorf("wrong rules, then good ones: %d, want %d", got, want)
	}
}

func TestOfEdgesOfRules(t *testing.T) { // each number of a rule at its edges, at which it still counts
	for _, r := range []api.Rule{
		drop(0, 0, -1, 0), drop(0, 32, -1, 0), drop(1<<32-1, 32, -1, 0), drop(1<<31, 1, -1, 0), drop(65536, 16, -1, 0), drop(65535, 32, -1, 0),
		drop(0, 0, 0, 0), drop(0, 0, 7, 0), drop(0, 0, -1, 255), drop(0, 0, 7, 255),
		forward(0, 0, -1, 0, 0), forward(0, 0, -1, 0, 7), forward(1<<32-1, 32, 7, 255, 7),
	} {
		if !mayModel(r) {
			t.Fatalf("the model errs: %+v", r)
		}
		for _, tag := range []int{0, 1, 4095, 65535, 65536, -1} {
			if got, want := Of(tag, []api.Rule{r}), ofModel(tag, []api.Rule{r}); got != want {
				t.Errorf("Of(%d, %+v) = %d, want %d", tag, r, got, want)
			}
		}
	}
}

func TestOfAgainstModel(t *testing.T) {
	c := counter(1)
	wrong, several := 0, 0
	const rounds = 8000
	for range rounds {
		tag, l := c.tag(), c.rules(8)
		if got, want := Of(tag, l), ofModel(tag, l); got != want {
			t.Fatalf("Of(%d, %+v) = %d, want %d", tag, l, got, want)
		}
		n := 0
		for _, r := range l {
			if mayModel(r) {
				n++
			}
		}
		if n < len(l) {
			wrong++
		}
		if n > 2 {
			several++
		}
	}
	if wrong < rounds/10 || wrong > rounds*9/10 || several < rounds/3 {
		t.Errorf("of %d lists %d have rules that may not be, and %d several: too few or too many to tell by", rounds, wrong, several)
	}
}

func TestOfMany(t *testing.T) { // more rules than any table has, whose total is folded more than once
	c := counter(2)
	for _, n := range []int{40, 41, 500, 4000} {
		var l []api.Rule
		for range n {
			l = append(l, c.rule(), c.wrong())
		}
		if got, want := Of(3, l), ofModel(3, l); got != want {
			t.Errorf("of %d rules: %d, want %d", len(l), got, want)
		}
	}
	l := slices.Repeat([]api.Rule{forward(1<<32-1, 32, 7, 255, 7)}, 10000)
	if got, want := Of(3, l), ofModel(3, l); got != want {
		t.Errorf("of the same 10000 times: %d, want %d", got, want)
	}
}

// turned are rules in which one number is another one.
func turned(base api.Rule) map[string]api.Rule {
	all := map[string]api.Rule{}
	for name, turn := range map[string]func(*api.Rule){
		"Addr, its first byte":  func(r *api.Rule) { r.P.Addr += 1 << 24 },
		"Addr, its second byte": func(r *api.Rule) { r.P.Addr += 1 << 16 },
		"Addr, its third byte":  func(r *api.Rule) { r.P.Addr += 1 << 8 },
		"Addr, its last byte":   func(r *api.Rule) { r.P.Addr++ },
		"In":                    func(r *api.Rule) { r.In++ },
		"In, from any port":     func(r *api.Rule) { r.In = api.AnyPort },
		"Prio":                  func(r *api.Rule) { r.Prio++ },
		"Port":                  func(r *api.Rule) { r.Act.Port++ },
		"Kind":                  func(r *api.Rule) { r.Act = api.Action{} },
		"so that it may not be": func(r *api.Rule) { r.In = 9 },
	} {
		r := base
		turn(&r)
		all[name] = r
	}
	return all
}

func TestOneTurned(t *testing.T) { // a rule more, or one number turned, is another number
	base := forward(ten|0x010203, 32, 2, 5, 3)
	others := []api.Rule{forward(ten, 8, -1, 5, 2), drop(0, 0, 3, 0)}
	of := func(tag int, l ...api.Rule) int { return Of(tag, append(l, others...)) }
	first := of(7, base)
	all := All([]api.Ver{ver(1, others...), ver(7, base)})
	for name, r := range turned(base) {
		if got := of(7, r); got == first || got != ofModel(7, append(slices.Clone(others), r)) {
			t.Errorf("%s: %d, and %d ahead of it", name, got, first)
		}
		if got := All([]api.Ver{ver(1, others...), ver(7, r)}); got == all {
			t.Errorf("%s: All stays %d", name, all)
		}
	}
	for n := 24; n < 32; n++ {
		if got := Of(7, []api.Rule{drop(ten, n, -1, 0)}); got == Of(7, []api.Rule{drop(ten, n+1, -1, 0)}) {
			t.Errorf("Len %d and %d: both %d", n, n+1, got)
		}
	}
	for _, more := range []api.Rule{base, {}, forward(0, 0, -1, 0, 0), drop(0, 1, -1, 0)} {
		if got := of(7, base, more); got == first {
			t.Errorf("with %+v more it stays %d", more, first)
		}
	}
	for _, tag := range []int{0, 1, 6, 8, 4095, 65535, -1} {
		if got := of(tag, base); got == first {
			t.Errorf("tag %d: as of tag 7, %d", tag, first)
		}
		if got := All([]api.Ver{ver(1, others...), ver(tag, base)}); got == all {
			t.Errorf("tag %d: All stays %d", tag, all)
		}
	}
}

func TestWhatIsNotTold(t *testing.T) { // where the chapter asks for the same number, though rules or tags are other ones
	a := forward(ten, 8, -1, 5, 2)
	for _, x := range []struct {
		name     string
		one, two int
	}{
		{"a rule whose bytes are noughts", Of(1, []api.Rule{a}), Of(1, []api.Rule{a, drop(0, 0, -1, 0)})},
		{"tags whose last 16 bits are the same", Of(1, []api.Rule{a}), Of(65537, []api.Rule{a})},
		{"tags whose last 16 bits are the same, below 0", Of(4095, []api.Rule{a}), Of(4095-65536, []api.Rule{a})},
		{"tags 0 and 65535, with a rule", Of(0, []api.Rule{a}), Of(65535, []api.Rule{a})},
		{"what one word has more, another one has less", Of(1, []api.Rule{drop(ten, 8, -1, 6)}), Of(1, []api.Rule{drop(11<<24, 8, -1, 5)})},
		{"a version of the number 0", All([]api.Ver{ver(1, a)}), All([]api.Ver{ver(1, a), ver(65535)})},
	} {
		if x.one != x.two {
			t.Errorf("%s: %d and %d", x.name, x.one, x.two)
		}
	}
}

// P10.1: All

func TestAll(t *testing.T) {
	a := forward(ten, 8, -1, 5, 2) // 6401, as above
	b := drop(ten|1<<16, 16, 2, 0) // 6660
	for _, x := range []struct {
		name string
		l    []api.Ver
		want int
	}{
		{"no versions", nil, 65535},
		{"no versions, but a list", []api.Ver{}, 65535},
		{"a version without rules", []api.Ver{ver(1)}, 1},
		{"a version without rules, but a list", []api.Ver{{Tag: 1, L: []api.Rule{}}}, 1},
		{"a version of tag 0 without rules", []api.Ver{ver(0)}, 0},
		{"a version of tag 65535 without rules", []api.Ver{ver(65535)}, 65535},
		{"a version of tag 65536", []api.Ver{ver(65536)}, 0},
		{"a version of a tag below 0", []api.Ver{ver(-2)}, 65534},
		{"the greatest tag", []api.Ver{ver(4095)}, 4095},
		{"a version", []api.Ver{ver(1, a)}, 1 + 6401},
		{"a version with rules that may not be alone", []api.Ver{ver(1, api.Rule{In: 9}, api.Rule{In: -2})}, 1},
		{"two versions: 59133 and 58873 are folded to 52471", []api.Ver{ver(1, a), ver(2, b)}, 65535 - 52471},
		{"out of order", []api.Ver{ver(2, b), ver(1, a)}, 65535 - 52471},
		{"two versions, and rules that may not be", []api.Ver{ver(1, a, api.Rule{In: 9}), ver(2, api.Rule{In: 9}, b)}, 65535 - 52471},
		{"a tag twice: both", []api.Ver{ver(1, a), ver(1, b)}, 65535 - 52472},
		{"the same twice: 59133 and 59133 are folded to 52731", []api.Ver{ver(1, a), ver(1, a)}, 65535 - 52731},
		{"a tag twice, without rules: 131068 is folded to 65533", []api.Ver{ver(1), ver(1)}, 2},
		{"three without rules: 196599 is folded to 65529", []api.Ver{ver(1), ver(2), ver(3)}, 6},
	} {
		if got := All(x.l); got != x.want {
			t.Errorf("%s: All(%+v) = %d, want %d", x.name, x.l, got, x.want)
		}
		if want := allModel(x.l); want != x.want {
			t.Errorf("%s: the model errs: %d, want %d", x.name, want, x.want)
		}
	}
}

func TestAllHasTags(t *testing.T) { // whose rules they are is told, too
	a, b := forward(ten, 8, -1, 5, 2), drop(0, 0, 3, 9)
	one := All([]api.Ver{ver(1, a), ver(2, b)})
	for _, l := range [][]api.Ver{{ver(1, a), ver(3, b)}, {ver(1, a, b)}, {ver(1, a)}, {ver(2, b)}, {ver(1, a), ver(2, b), ver(3)}, {ver(1), ver(2)}} {
		if got := All(l); got == one || got != allModel(l) {
			t.Errorf("All(%+v) = %d, and %d of others", l, got, one)
		}
	}
}

func TestAllAgainstModel(t *testing.T) {
	c := counter(3)
	for range 5000 {
		l := c.table()
		if got, want := All(l), allModel(l); got != want {
			t.Fatalf("All(%+v) = %d, want %d", l, got, want)
		}
	}
	var l []api.Ver
	for i := range 3000 {
		l = append(l, ver(i, c.rules(3)...))
	}
	if got, want := All(l), allModel(l); got != want {
		t.Errorf("of 3000 versions: %d, want %d", got, want)
	}
}

// P10.1: the bytes, as what they add up to does not tell their order

func pieces(of iter.Seq[[]byte]) [][]byte {
	var l [][]byte
	for b := range of {
		l = append(l, b)
	}
	return l
}

func TestBytesInOrder(t *testing.T) {
	far, wide, near := drop(11<<24, 8, 1, 0), forward(0, 0, 7, 255, 7), forward(ten|1<<16, 16, 2, 0, 1)
	high, low := drop(ten, 8, -1, 9), drop(ten, 8, -1, 0)
	want := [][]byte{
		{16, 1},
		{10, 1, 0, 0, 16, 3, 0, 1, 1, 0}, // the longer prefix
		{10, 0, 0, 0, 8, 0, 9, 0, 0, 0},  // the higher priority
		{11, 0, 0, 0, 8, 2, 0, 0, 0, 0},  // the greater port
		{10, 0, 0, 0, 8, 0, 0, 0, 0, 0},
		{0, 0, 0, 0, 0, 8, 255, 1, 7, 0},
	}
	orders([]api.Rule{far, wide, near, high, low, {In: 9}}, 0, func(l []api.Rule) {
		if got := pieces(ofRules(4097, l)); !slices.EqualFunc(got, want, bytes.Equal) {
			t.Fatalf("the bytes of %+v are %v, want %v", l, got, want)
		}
	})
	l := []api.Ver{ver(2), ver(1), ver(2), ver(65535)}
	if got := pieces(ofVersions(l)); !slices.EqualFunc(got, [][]byte{{255, 253}, {255, 254}, {255, 253}, {0, 0}}, bytes.Equal) {
		t.Errorf("the bytes of %+v are %v", l, got)
	}
}

func TestBytesStop(t *testing.T) { // who goes through bytes may stop at any
	l := []api.Rule{drop(0, 0, -1, 0), drop(ten, 8, -1, 0), {In: 9}}
	for name, of := range map[string]iter.Seq[[]byte]{"rules": ofRules(1, l), "versions": ofVersions([]api.Ver{ver(1, l...), ver(2), ver(3)})} {
		for most := range 3 {
			n := 0
			for range of {
				if n++; n > most {
					break
				}
			}
			if n != most+1 {
				t.Errorf("of %s it stops behind %d, not %d", name, n, most+1)
			}
		}
	}
}

// P10.2

func TestOfInAllOrders(t *testing.T) {
	for _, l := range [][]api.Rule{
		{forward(ten, 8, -1, 5, 2), forward(0, 0, 2, 0, 1)},
		{drop(0, 0, -1, 9), drop(ten, 8, -1, 0), drop(ten, 8, -1, 3), drop(ten, 8, 1, 3), forward(ten|1<<16, 16, 2, 0, 1), forward(11<<24, 8, 1, 255, 7)},
		{drop(0, 0, 0, 0), {In: 9}, forward(1<<32-1, 32, 7, 255, 7), drop(ten+1, 8, -1, 0), drop(65535<<16, 16, 3, 1)},
		{forward(ten, 8, -1, 5, 3), drop(ten, 8, -1, 5), forward(ten, 8, -1, 5, 0), forward(ten, 8, -1, 5, 3)}, // alike: pick's Order tells these apart, too
	} {
		want := ofModel(9, l)
		orders(slices.Clone(l), 0, func(m []api.Rule) {
			if got := Of(9, m); got != want {
				t.Errorf("Of(9, %+v) = %d, want %d", m, got, want)
			}
		})
	}
}

func TestOfAndAllShuffled(t *testing.T) {
	c := counter(4)
	for range 2000 {
		tag, l := c.tag(), c.rules(8)
		want, all := Of(tag, l), All([]api.Ver{ver(tag, l...), ver(3, l...)})
		for i := range l {
			k := i + c.next(len(l)-i)
			l[i], l[k] = l[k], l[i]
		}
		if got := Of(tag, l); got != want {
			t.Fatalf("of %+v, in another order, it is %d, not %d", l, got, want)
		}
		if got := All([]api.Ver{ver(tag, l...), ver(3, l...)}); got != all {
			t.Fatalf("of a table with %+v, in another order, it is %d, not %d", l, got, all)
		}
	}
}

// R1, R3, R5

func TestArgumentsStay(t *testing.T) {
	l := []api.Rule{drop(0, 0, -1, 0), {In: 9}, forward(ten, 8, -1, 5, 2), drop(ten, 32, -1, 0), forward(ten, 8, -1, 5, 2)}
	room := append(make([]api.Rule, 0, 9), l...)
	before := slices.Clone(room[:cap(room)])
	table := append(make([]api.Ver, 0, 4), ver(5, room...), ver(2, room[:2]...), ver(5), ver(-1, room[1:]...))
	table[0].L = room
	versions := table[:3] // the fourth one is behind the end, and none of it
	kept := slices.Clone(table)
	of, all := Of(5, room), All(versions)
	if !slices.Equal(room[:cap(room)], before) {
		t.Error("the rules do not stand as they stood")
	}
	if !slices.EqualFunc(table, kept, func(v, w api.Ver) bool { return v.Tag == w.Tag && slices.Equal(v.L, w.L) }) {
		t.Error("the versions do not stand as they stood")
	}
	if of != ofModel(5, l) || all != allModel(versions) {
		t.Errorf("%d and %d; want %d and %d", of, all, ofModel(5, l), allModel(versions))
	}
	for range 3 {
		Of(1, []api.Rule{drop(0, 32, 7, 255)})
		All([]api.Ver{ver(9, drop(0, 32, 7, 255))})
		if Of(5, room) != of || All(versions) != all {
			t.Fatal("asked again, it tells another number")
		}
	}
}

func TestKeepsToLength(t *testing.T) { // rules and versions behind a list's end are none of it
	l := []api.Rule{forward(ten, 8, -1, 5, 2), drop(ten, 32, 3, 9)}
	if got, want := Of(1, l[:1]), ofModel(1, l[:1]); got != want {
		t.Errorf("of a piece of a list: %d, want %d", got, want)
	}
	table := []api.Ver{ver(1, l[:1]...), ver(2, l...)}
	if got, want := All(table[:1]), allModel(table[:1]); got != want {
		t.Errorf("of a piece of a table: %d, want %d", got, want)
	}
}

func TestAlwaysTwoBytes(t *testing.T) { // R1: whatever it is given, a number that two bytes hold
	var l []api.Rule
	for _, r := range wrongRules() {
		l = append(l, r)
	}
	c := counter(5)
	for range 2000 {
		rules := append(c.rules(4), l[c.next(len(l))])
		tag := c.one(math.MinInt, math.MaxInt, c.next(1<<31), -c.next(1<<31), c.tag())
		if n := Of(tag, rules); !within(n, 0, 65535) {
			t.Fatalf("Of(%d, %+v) = %d", tag, rules, n)
		}
		if n := All([]api.Ver{ver(tag, rules...), ver(tag), ver(c.tag(), rules...)}); !within(n, 0, 65535) {
			t.Fatalf("All = %d", n)
		}
	}
}
