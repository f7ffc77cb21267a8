package rule

import (
	"bytes"
	"encoding/binary"
	"math"
	"math/big"
	"testing"

	"wayfinder/api"
)

// The model that the calls are held against divides addresses by powers of two, orders rules by one great number each, and writes bytes by the library's binary order, so that it shares nothing with them.

func size(n int) int { return 1 << (32 - n) }

func mayPrefixModel(p api.Prefix) bool {
	return p.Len >= 0 && p.Len <= 32 && p.Addr >= 0 && p.Addr < 1<<32 && p.Addr%size(p.Len) == 0
}

func mayModel(r api.Rule) bool {
	if !mayPrefixModel(r.P) || r.In < -1 || r.In > 7 || r.Prio < 0 || r.Prio > 255 {
		return false
	}
	return r.Act == api.Action{} || r.Act.Kind == 1 && r.Act.Port >= 0 && r.Act.Port <= 7
}

func fitsModel(r api.Rule, in, dst int) bool {
	addr := int(uint32(dst)) // of any number the last 32 bits
	return mayPrefixModel(r.P) && addr >= r.P.Addr && addr-r.P.Addr < size(r.P.Len) && (r.In == -1 || r.In == in)
}

// place is greater for what is ahead: three digits to a base that no int reaches.
func place(r api.Rule) *big.Int {
	n := new(big.Int)
	base := new(big.Int).Lsh(big.NewInt(1), 70)
	for _, digit := range []int{r.P.Len, r.Prio, r.In} {
		n.Add(n.Mul(n, base), big.NewInt(int64(digit)))
	}
	return n
}

func aheadModel(a, b api.Rule) bool { return place(a).Cmp(place(b)) > 0 }

func alikeModel(a, b api.Rule) bool {
	a.Act, b.Act = api.Action{}, api.Action{}
	return a == b
}

func putModel(r api.Rule) ([]byte, api.Errno) {
	if !mayModel(r) {
		return nil, api.ErrArg
	}
	b := binary.BigEndian.AppendUint32(nil, uint32(r.P.Addr))
	return append(b, byte(r.P.Len), byte(r.In+1), byte(r.Prio), byte(r.Act.Kind), byte(r.Act.Port)), api.OK
}

func getModel(b []byte) (api.Rule, api.Errno) {
	if len(b) < 9 {
		return api.Rule{}, api.ErrMore
	}
	r := make9(b)
	if !mayModel(r) {
		return api.Rule{}, api.ErrForm
	}
	return r, api.OK
}

func make9(b []byte) api.Rule {
	return api.Rule{P: api.Prefix{Addr: int(binary.BigEndian.Uint32(b)), Len: int(b[4])}, In: int(b[5]) - 1, Prio: int(b[6]), Act: api.Action{Kind: int(b[7]), Port: int(b[8])}}
}

const ten = 10 << 24

func forward(addr, n, in, prio, port int) api.Rule {
	return api.Rule{P: api.Prefix{Addr: addr, Len: n}, In: in, Prio: prio, Act: api.Action{Kind: api.Forward, Port: port}}
}

func drop(addr, n, in, prio int) api.Rule {
	return api.Rule{P: api.Prefix{Addr: addr, Len: n}, In: in, Prio: prio}
}

// far are numbers that no field of a rule may be.
func far() []int {
	return []int{math.MaxInt, math.MaxInt - 1, math.MinInt, math.MinInt + 1, 1 << 32, 1<<32 + 5, -1 << 32, 1 << 40, -1 << 40}
}

// wrongRules are rules of which just one thing may not be.
func wrongRules() map[string][]api.Rule {
	all := map[string][]api.Rule{}
	set := func(name string, put func(r *api.Rule, n int), near ...int) {
		for _, base := range []api.Rule{forward(ten, 8, -1, 5, 2), forward(0, 0, 7, 255, 7), forward(1<<32-1, 32, 0, 0, 0)} {
			for _, n := range append(far(), near...) {
				r := base
				put(&r, n)
				all[name] = append(all[name], r)
			}
		}
	}
	set("In", func(r *api.Rule, n int) { r.In = n }, -2, -3, -8, 8, 9, 255, 256)
	set("Prio", func(r *api.Rule, n int) { r.Prio = n }, -1, -2, -255, 256, 257, 511, 512)
	set("Kind", func(r *api.Rule, n int) { r.Act.Kind = n }, -1, 2, 3, 255, 256, 257)
	set("Port", func(r *api.Rule, n int) { r.Act.Port = n }, -1, -2, 8, 9, 255, 256)
	set("Kind with the Port 0", func(r *api.Rule, n int) { r.Act = api.Action{Kind: n} }, -1, 2, 3, 255, 256, 257)
	set("Port of a Drop", func(r *api.Rule, n int) { r.Act = api.Action{Kind: api.Drop, Port: n} }, -1, 1, 2, 7, 8, 256)
	set("Len", func(r *api.Rule, n int) { r.P = api.Prefix{Len: n} }, -1, -8, 33, 34, 64, 256)
	set("Addr", func(r *api.Rule, n int) { r.P = api.Prefix{Addr: n, Len: 32} }, -1, -2, 1<<33)
	set("Addr of Len 0", func(r *api.Rule, n int) { r.P = api.Prefix{Addr: n} }, 1, 1<<31, 1<<32-1, -1)
	set("Addr beyond its Len", func(r *api.Rule, n int) { r.P = api.Prefix{Addr: n, Len: 8} }, ten+1, ten+1<<23, 1, 1<<32-1)
	return all
}

// counter makes numbers from a number, the same ones each time.
type counter uint64

func (c *counter) next(below int) int {
	*c = *c*6364136223846793005 + 1442695040888963407
	return int(uint64(*c)>>31) % below
}

// from is often an edge.
func (c *counter) from(least, most int) int {
	switch c.next(4) {
	case 0:
		return least
	case 1:
		return most
	}
	return least + c.next(most-least+1)
}

func (c *counter) rule() api.Rule {
	n := c.from(0, 32)
	r := drop(c.from(0, 1<<32-1)/size(n)*size(n), n, c.from(-1, 7), c.from(0, 255))
	if c.next(3) > 0 {
		r.Act = api.Action{Kind: api.Forward, Port: c.from(0, 7)}
	}
	return r
}

// crowd are rules of few numbers, so that many are even in some of them, also such as may not be.
func (c *counter) crowd() api.Rule {
	return api.Rule{P: api.Prefix{Addr: ten + c.next(2), Len: 30 + c.next(4)}, In: c.next(3) - 1, Prio: c.next(3), Act: api.Action{Kind: c.next(3), Port: c.next(2)}}
}

func (c *counter) any() int {
	l := append(far(), 0, 1, -1, 7, 8, 31, 32, 33, 255, 256, ten, 1<<32-1)
	return l[c.next(len(l))]
}

func TestMayEdges(t *testing.T) { // P4.1: each field at its least and at its greatest
	for _, r := range []api.Rule{
		{}, drop(0, 0, -1, 0), drop(0, 0, 7, 255), drop(1<<32-1, 32, 7, 255), drop(0, 32, 0, 1), drop(1<<31, 1, 6, 254),
		forward(ten, 8, -1, 5, 2), forward(ten, 8, -1, 0, 0), forward(ten, 8, -1, 0, 7), forward(ten, 8, 0, 0, 0), forward(ten, 8, 7, 0, 0),
		forward(ten, 8, -1, 255, 0), forward(0, 0, -1, 0, 0), forward(1<<32-1, 32, 7, 255, 7), forward(1<<32-2, 31, 7, 255, 7), forward(ten+1, 32, 3, 3, 3),
	} {
		if !May(r) {
			t.Errorf("May(%+v) = false", r)
		}
	}
	for in := -1; in <= 7; in++ {
		for port := 0; port <= 7; port++ {
			if r := forward(ten, 8, in, 9, port); !May(r) {
				t.Errorf("May(%+v) = false", r)
			}
		}
	}
}

func TestMayRefuses(t *testing.T) { // P4.1
	for name, l := range wrongRules() {
		for _, r := range l {
			if May(r) {
				t.Errorf("%s: May(%+v) = true", name, r)
			}
		}
	}
}

func TestMayAgainstModel(t *testing.T) { // P4.1
	c := counter(1)
	good := 0
	for range 20000 {
		r := c.rule()
		if c.next(2) == 0 {
			n := c.any()
			*[]*int{&r.P.Addr, &r.P.Len, &r.In, &r.Prio, &r.Act.Kind, &r.Act.Port}[c.next(6)] = n
		}
		if got, want := May(r), mayModel(r); got != want {
			t.Errorf("May(%+v) = %v", r, got)
		}
		if mayModel(r) {
			good++
		}
	}
	if good < 5000 || good > 18000 {
		t.Errorf("%d of 20000 rules may be: too few or too many to tell by", good)
	}
}

func TestFitsExamples(t *testing.T) { // P4.1
	for _, x := range []struct {
		r       api.Rule
		in, dst int
		want    bool
	}{
		{forward(ten, 8, -1, 5, 2), 7, 167838211, true},
		{forward(ten, 8, -1, 5, 2), 0, ten, true},
		{forward(ten, 8, -1, 5, 2), -1, ten, true},
		{forward(ten, 8, -1, 5, 2), 99, ten + 1<<24 - 1, true},
		{forward(ten, 8, -1, 5, 2), 7, ten + 1<<24, false},
		{forward(ten, 8, -1, 5, 2), 7, ten - 1, false},
		{forward(ten, 8, 2, 5, 2), 2, ten, true},
		{forward(ten, 8, 2, 5, 2), 1, ten, false},
		{forward(ten, 8, 2, 5, 2), 3, ten, false},
		{forward(ten, 8, 2, 5, 2), -1, ten, false},
		{forward(ten, 8, 0, 5, 2), 0, ten, true},
		{forward(ten, 8, 0, 5, 2), -1, ten, false},
		{forward(ten, 8, 7, 5, 2), 7, ten, true},
		{forward(ten, 8, 2, 5, 2), 2, 0, false},
		{drop(0, 0, -1, 0), 3, 0, true},
		{drop(0, 0, -1, 0), 3, 1<<32 - 1, true},
		{drop(0, 0, 3, 0), 3, 1<<32 - 1, true},
		{drop(ten+1, 32, -1, 0), 3, ten + 1, true},
		{drop(ten+1, 32, -1, 0), 3, ten, false},
		{drop(ten, 8, -1, 0), 3, 1<<32 + ten, true},     // the last 32 bits count
		{drop(1<<31, 1, -1, 0), 3, -1, true},            // the same
		{drop(ten+1, 8, -1, 0), 3, ten + 1, false},      // a prefix that may not be has none
		{drop(0, 33, -1, 0), 3, 0, false},               // the same
		{drop(0, -1, -1, 0), 3, 0, false},               // the same
		{drop(1<<32+ten, 8, -1, 0), 3, ten, false},      // the same
		{drop(ten, 8, -2, 0), -2, ten, true},            // an In that may not be is still in
		{drop(ten, 8, -2, 0), 3, ten, false},            // and is not any port
		{drop(ten, 8, 8, 0), 8, ten, true},              // in
		{forward(ten, 8, -1, 256, 8), 3, ten, true},     // Prio and Act are not asked
		{forward(ten, 8, -1, -1, -1), 3, ten + 1, true}, // the same
		{api.Rule{P: api.Prefix{Addr: ten, Len: 8}, In: 1, Act: api.Action{Kind: 9, Port: 9}}, 1, ten, true},
	} {
		if got := Fits(x.r, x.in, x.dst); got != x.want {
			t.Errorf("Fits(%+v, %d, %d) = %v", x.r, x.in, x.dst, got)
		}
	}
}

func TestFitsAgainstModel(t *testing.T) { // P4.1
	c := counter(2)
	fit := 0
	for range 30000 {
		r := c.rule()
		in, dst := c.from(-1, 7), r.P.Addr+c.next(size(r.P.Len)+2)-1
		switch c.next(8) {
		case 0:
			r = c.crowd()
			in, dst = c.next(3)-1, ten+c.next(5)-1
		case 1:
			dst = c.any()
		case 2:
			in = r.In
		case 3:
			in = r.In
			dst += (c.next(5) - 2) << 32
		}
		got, want := Fits(r, in, dst), fitsModel(r, in, dst)
		if got != want {
			t.Errorf("Fits(%+v, %d, %d) = %v", r, in, dst, got)
		}
		if want {
			fit++
		}
	}
	if fit < 5000 || fit > 25000 {
		t.Errorf("%d of 30000 fit: too few or too many to tell by", fit)
	}
}

func TestAheadByOneAlone(t *testing.T) { // P4.2
	for _, x := range []struct {
		name        string
		first, then api.Rule
	}{
		{"Len", forward(ten, 9, 2, 5, 2), forward(ten, 8, 2, 5, 2)},
		{"Len at its edges", drop(0, 32, -1, 0), drop(0, 0, -1, 0)},
		{"Prio", forward(ten, 8, 2, 6, 2), forward(ten, 8, 2, 5, 2)},
		{"Prio at its edges", forward(ten, 8, 2, 255, 2), forward(ten, 8, 2, 0, 2)},
		{"In", forward(ten, 8, 3, 5, 2), forward(ten, 8, 2, 5, 2)},
		{"In at its edges", forward(ten, 8, 7, 5, 2), forward(ten, 8, -1, 5, 2)},
		{"In 0 and any", forward(ten, 8, 0, 5, 2), forward(ten, 8, -1, 5, 2)},
		{"Len ahead of Prio and In", forward(ten, 9, -1, 0, 2), forward(ten, 8, 7, 255, 2)},
		{"Prio ahead of In", forward(ten, 8, -1, 6, 2), forward(ten, 8, 7, 5, 2)},
		{"another Addr", forward(0, 9, 2, 5, 2), forward(ten, 8, 2, 5, 2)},
		{"numbers whose difference wraps, Len", api.Rule{P: api.Prefix{Len: math.MaxInt}}, api.Rule{P: api.Prefix{Len: math.MinInt}}},
		{"numbers whose difference wraps, Prio", api.Rule{Prio: math.MaxInt}, api.Rule{Prio: math.MinInt}},
		{"numbers whose difference wraps, In", api.Rule{In: math.MaxInt}, api.Rule{In: math.MinInt}},
	} {
		if !Ahead(x.first, x.then) {
			t.Errorf("%s: Ahead(%+v, %+v) = false", x.name, x.first, x.then)
		}
		if Ahead(x.then, x.first) {
			t.Errorf("%s: Ahead(%+v, %+v) = true", x.name, x.then, x.first)
		}
		if Alike(x.first, x.then) || Alike(x.then, x.first) {
			t.Errorf("%s: %+v and %+v are told to be alike", x.name, x.first, x.then)
		}
	}
}

func TestNoneAhead(t *testing.T) { // P4.2
	base := forward(ten, 8, 2, 5, 2)
	for _, x := range []struct {
		name  string
		r     api.Rule
		alike bool
	}{
		{"the same", base, true},
		{"another Port", forward(ten, 8, 2, 5, 3), true},
		{"another Act", drop(ten, 8, 2, 5), true},
		{"an Act that may not be", api.Rule{P: base.P, In: 2, Prio: 5, Act: api.Action{Kind: 7, Port: -3}}, true},
		{"another Addr", forward(11<<24, 8, 2, 5, 2), false},
	} {
		if Ahead(base, x.r) || Ahead(x.r, base) {
			t.Errorf("%s: one of %+v and %+v is told to be ahead", x.name, base, x.r)
		}
		if Alike(base, x.r) != x.alike || Alike(x.r, base) != x.alike {
			t.Errorf("%s: Alike of %+v and %+v is not %v", x.name, base, x.r, x.alike)
		}
	}
}

func TestAheadAndAlikeAgainstModel(t *testing.T) { // P4.2
	c := counter(3)
	ahead, alike := 0, 0
	for range 30000 {
		a, b := c.crowd(), c.crowd()
		if c.next(4) == 0 {
			a.P.Len, a.Prio, a.In = c.any(), c.any(), c.any()
		}
		if got, want := Ahead(a, b), aheadModel(a, b); got != want {
			t.Errorf("Ahead(%+v, %+v) = %v", a, b, got)
		}
		if got, want := Alike(a, b), alikeModel(a, b); got != want {
			t.Errorf("Alike(%+v, %+v) = %v", a, b, got)
		}
		if aheadModel(a, b) {
			ahead++
		}
		if alikeModel(a, b) {
			alike++
		}
	}
	if ahead < 5000 || ahead > 25000 || alike < 200 {
		t.Errorf("%d of 30000 are ahead, %d alike: too few or too many to tell by", ahead, alike)
	}
}

func TestPutExamples(t *testing.T) { // P4.3
	for _, x := range []struct {
		r    api.Rule
		want []byte
	}{
		{forward(ten, 8, -1, 5, 2), []byte{10, 0, 0, 0, 8, 0, 5, 1, 2}},
		{api.Rule{}, []byte{0, 0, 0, 0, 0, 1, 0, 0, 0}},
		{drop(0, 0, -1, 0), []byte{0, 0, 0, 0, 0, 0, 0, 0, 0}},
		{forward(0, 0, -1, 0, 0), []byte{0, 0, 0, 0, 0, 0, 0, 1, 0}},
		{drop(1<<32-1, 32, 7, 255), []byte{255, 255, 255, 255, 32, 8, 255, 0, 0}},
		{forward(1<<32-1, 32, 7, 255, 7), []byte{255, 255, 255, 255, 32, 8, 255, 1, 7}},
		{forward(0x01020304, 32, 5, 6, 7), []byte{1, 2, 3, 4, 32, 6, 6, 1, 7}},
	} {
		if b, e := Put(x.r); !bytes.Equal(b, x.want) || e != api.OK {
			t.Errorf("Put(%+v) = %v, %d; want %v", x.r, b, e, x.want)
		}
		if r, e := Get(x.want); r != x.r || e != api.OK {
			t.Errorf("Get(%v) = %+v, %d; want %+v", x.want, r, e, x.r)
		}
	}
}

func TestPutRefuses(t *testing.T) { // P4.3
	for name, l := range wrongRules() {
		for _, r := range l {
			if b, e := Put(r); len(b) != 0 || e != api.ErrArg {
				t.Errorf("%s: Put(%+v) = %v, %d; want ErrArg and no bytes", name, r, b, e)
			}
		}
	}
}

func TestGetByLength(t *testing.T) { // P4.3
	for _, x := range []struct {
		whole []byte
		r     api.Rule
		e     api.Errno
	}{
		{[]byte{10, 0, 0, 0, 8, 0, 5, 1, 2}, forward(ten, 8, -1, 5, 2), api.OK},
		{[]byte{10, 0, 0, 1, 8, 0, 5, 1, 2}, api.Rule{}, api.ErrForm},
	} {
		for _, behind := range [][]byte{{0, 0, 0}, {255, 255, 255}, x.whole} {
			long := append(bytes.Clone(x.whole), behind...)
			for n := 0; n <= len(long); n++ {
				want, wantE := api.Rule{}, api.ErrMore
				if n >= 9 {
					want, wantE = x.r, x.e
				}
				if r, e := Get(long[:n]); r != want || e != wantE {
					t.Errorf("Get(%v) = %+v, %d; want %+v, %d", long[:n], r, e, want, wantE)
				}
			}
		}
	}
	if r, e := Get(nil); r != (api.Rule{}) || e != api.ErrMore {
		t.Errorf("Get(nil) = %+v, %d; want ErrMore", r, e)
	}
}

func TestGetWhatMayNotBe(t *testing.T) { // P4.3
	whole := []byte{10, 0, 0, 0, 8, 0, 5, 1, 2}
	for _, x := range []struct {
		at    int
		wrong []byte
	}{
		{1, []byte{1, 128, 255}}, {2, []byte{1, 255}}, {3, []byte{1, 255}}, // bits beyond the Len
		{4, []byte{0, 1, 6, 33, 64, 128, 255}}, // a Len that is less than the Addr needs, or none
		{5, []byte{9, 10, 16, 128, 255}},
		{7, []byte{0, 2, 3, 128, 255}}, // 0: a Drop with a Port
		{8, []byte{8, 9, 128, 255}},
	} {
		for _, n := range x.wrong {
			b := bytes.Clone(whole)
			b[x.at] = n
			if r, e := Get(b); r != (api.Rule{}) || e != api.ErrForm {
				t.Errorf("Get(%v) = %+v, %d; want ErrForm and noughts", b, r, e)
			}
		}
	}
}

// TestGetAllBytes sets each of the 9 bytes to all that a byte may be.
func TestGetAllBytes(t *testing.T) { // P4.3
	for _, whole := range [][]byte{{10, 0, 0, 0, 8, 0, 5, 1, 2}, {0, 0, 0, 0, 0, 8, 255, 0, 0}, {255, 255, 255, 255, 32, 1, 0, 1, 7}} {
		for i := range whole {
			for n := range 256 {
				b := bytes.Clone(whole)
				b[i] = byte(n)
				want, wantE := getModel(b)
				if r, e := Get(b); r != want || e != wantE {
					t.Errorf("Get(%v) = %+v, %d; want %+v, %d", b, r, e, want, wantE)
				}
			}
		}
	}
}

func TestPutAndGetAgainstModel(t *testing.T) { // P4.3
	c := counter(4)
	seen := map[api.Errno]int{}
	for range 20000 {
		r := c.rule()
		want, wantE := putModel(r)
		b, e := Put(r)
		if !bytes.Equal(b, want) || e != wantE {
			t.Fatalf("Put(%+v) = %v, %d; want %v, %d", r, b, e, want, wantE)
		}
		switch c.next(4) {
		case 0:
			b[c.next(9)] = byte(c.next(256))
		case 1:
			b[4+c.next(5)] += byte(1 + c.next(2))
		case 2:
			b = append(b, byte(c.next(256)), byte(c.next(256)))[:c.next(12)]
		}
		wantR, wantE := getModel(b)
		if r, e := Get(b); r != wantR || e != wantE {
			t.Errorf("Get(%v) = %+v, %d; want %+v, %d", b, r, e, wantR, wantE)
		}
		seen[wantE]++
	}
	for _, e := range []api.Errno{api.OK, api.ErrForm, api.ErrMore} {
		if seen[e] < 1000 {
			t.Errorf("error %d was asked for only %d times", e, seen[e])
		}
	}
}

func TestPutIsGot(t *testing.T) { // P4.4
	c := counter(5)
	for range 5000 {
		r := c.rule()
		b, e := Put(r)
		if len(b) != 9 || e != api.OK {
			t.Fatalf("Put(%+v) = %v, %d", r, b, e)
		}
		if got, e := Get(b); got != r || e != api.OK {
			t.Errorf("%+v is got as %+v, %d", r, got, e)
		}
	}
}

func TestGotIsPut(t *testing.T) { // P4.4
	c := counter(6)
	got := 0
	for range 20000 {
		b := []byte{byte(c.from(0, 255)), 0, 0, 0, byte(c.next(40)), byte(c.next(11)), byte(c.next(256)), byte(c.next(3)), byte(c.next(10) * c.next(2))}
		r, e := Get(b)
		if e != api.OK {
			continue
		}
		got++
		if again, e := Put(r); !bytes.Equal(again, b) || e != api.OK {
			t.Errorf("%v is put as %v, %d", b, again, e)
		}
	}
	if got < 2000 {
		t.Errorf("only %d of 20000 were rules", got)
	}
}

// TestJustOneAhead takes rules round one address, so that many fit one packet.
func TestJustOneAhead(t *testing.T) { // P4.4
	c := counter(7)
	near := func() api.Rule {
		n := 28 + c.next(5)
		return drop((ten+c.next(4))/size(n)*size(n), n, c.next(3)-1, c.next(3))
	}
	pairs := 0
	for range 30000 {
		a, b := near(), near()
		in, dst := c.next(2), ten+c.next(4)
		if !Fits(a, in, dst) || !Fits(b, in, dst) {
			continue
		}
		if Alike(a, b) {
			if Ahead(a, b) || Ahead(b, a) {
				t.Errorf("%+v and %+v are alike, and one is ahead", a, b)
			}
			continue
		}
		pairs++
		if Ahead(a, b) == Ahead(b, a) {
			t.Errorf("%+v and %+v fit from %d to %d; Ahead is %v both ways", a, b, in, dst, Ahead(a, b))
		}
	}
	if pairs < 3000 {
		t.Errorf("only %d pairs fitted one packet", pairs)
	}
}

func TestArgumentsStay(t *testing.T) { // R3
	room := []byte{10, 0, 0, 0, 8, 0, 5, 1, 2, 6, 7, 8}
	kept := bytes.Clone(room)
	for n := range room {
		Get(room[:n])
		if !bytes.Equal(room, kept) {
			t.Fatalf("Get of %d bytes changed them, or what stands behind: %v", n, room)
		}
	}
}

func TestAnswersAreOwn(t *testing.T) { // R3, R5: what a caller writes into an answer is not to be seen in the next one
	r := forward(ten, 8, -1, 5, 2)
	want := []byte{10, 0, 0, 0, 8, 0, 5, 1, 2}
	for range 3 {
		b, e := Put(r)
		if !bytes.Equal(b, want) || e != api.OK {
			t.Fatalf("Put(%+v) = %v, %d; it hangs on an earlier answer", r, b, e)
		}
		for i := range b {
			b[i] = 9
		}
		_ = append(b, 9)
		if got, e := Get(want); got != r || e != api.OK {
			t.Fatalf("Get(%v) = %+v, %d", want, got, e)
		}
	}
}
