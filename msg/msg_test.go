package msg

import (
	"bytes"
	"encoding/binary"
	"math"
	"testing"

	"wayfinder/api"
)

// The model that the calls are held against asks kind by kind in a switch and writes bytes by the library's binary order, so that it shares no table and no lower layer with them.

func mayRuleModel(r api.Rule) bool {
	if r.P.Len < 0 || r.P.Len > 32 || r.P.Addr < 0 || r.P.Addr >= 1<<32 || r.P.Addr%(1<<(32-r.P.Len)) != 0 {
		return false
	}
	if r.In < -1 || r.In > 7 || r.Prio < 0 || r.Prio > 255 {
		return false
	}
	return r.Act == api.Action{} || r.Act.Kind == 1 && r.Act.Port >= 0 && r.Act.Port <= 7
}

func mayModel(m api.Msg) bool {
	if m.Epoch < 1 || m.Epoch > 1<<20 || m.Seq < 0 || m.Seq > 1<<20 || m.Tag < 0 || m.Tag > 4095 {
		return false
	}
	bare := m.R == api.Rule{}
	switch m.Kind {
	case 0:
		return m.Seq == 0 && m.Tag == 0 && bare
	case 1:
		return bare
	case 2:
		return m.Seq > 0 && m.Tag > 0 && mayRuleModel(m.R)
	case 3, 4:
		return m.Seq > 0 && m.Tag > 0 && bare
	case 5:
		return m.Seq > 0 && m.Tag == 0 && bare
	}
	return false
}

// raw are bytes of numbers, also of such as may not be.
func raw(kind byte, epoch, seq uint32, tag uint16) []byte {
	b := []byte{kind}
	b = append(b, binary.BigEndian.AppendUint32(nil, epoch)[1:]...)
	b = append(b, binary.BigEndian.AppendUint32(nil, seq)[1:]...)
	return binary.BigEndian.AppendUint16(b, tag)
}

func rawRule(r api.Rule) []byte {
	b := binary.BigEndian.AppendUint32(nil, uint32(r.P.Addr))
	return append(b, byte(r.P.Len), byte(r.In+1), byte(r.Prio), byte(r.Act.Kind), byte(r.Act.Port))
}

func putModel(m api.Msg) ([]byte, api.Errno) {
	if !mayModel(m) {
		return nil, api.ErrArg
	}
	b := raw(byte(m.Kind), uint32(m.Epoch), uint32(m.Seq), uint16(m.Tag))
	if m.Kind == 2 {
		b = append(b, rawRule(m.R)...)
	}
	return b, api.OK
}

func getModel(b []byte) (api.Msg, api.Errno) {
	must := 9
	if len(b) > 0 && b[0] == 2 {
		must = 18
	}
	switch {
	case len(b) < must:
		return api.Msg{}, api.ErrMore
	case len(b) > must:
		return api.Msg{}, api.ErrForm
	}
	three := func(at int) int { return int(binary.BigEndian.Uint32(append([]byte{0}, b[at:at+3]...))) }
	m := api.Msg{Kind: int(b[0]), Epoch: three(1), Seq: three(4), Tag: int(binary.BigEndian.Uint16(b[7:]))}
	if must == 18 {
		m.R = api.Rule{P: api.Prefix{Addr: int(binary.BigEndian.Uint32(b[9:])), Len: int(b[13])}, In: int(b[14]) - 1, Prio: int(b[15]), Act: api.Action{Kind: int(b[16]), Port: int(b[17])}}
	}
	if !mayModel(m) {
		return api.Msg{}, api.ErrForm
	}
	return m, api.OK
}

const ten = 10 << 24

func forward(addr, n, in, prio, port int) api.Rule {
	return api.Rule{P: api.Prefix{Addr: addr, Len: n}, In: in, Prio: prio, Act: api.Action{Kind: api.Forward, Port: port}}
}

// field is one of a message's numbers, and from where to where it may go.
type field struct {
	name        string
	at          func(m *api.Msg) *int
	least, most int
}

// kind is a kind of messages by the chapter's words; a field that it does not tell of goes from 0 to 0.
type kind struct {
	name            string
	mid             api.Msg
	epoch, seq, tag field
	tellsOfRule     bool
}

func kinds() []kind {
	epoch := func(m *api.Msg) *int { return &m.Epoch }
	seq := func(m *api.Msg) *int { return &m.Seq }
	tag := func(m *api.Msg) *int { return &m.Tag }
	one := func(name string, mid api.Msg, seqLeast, seqMost, tagLeast, tagMost int) kind {
		return kind{name, mid, field{"Epoch", epoch, 1, 1048576}, field{"Seq", seq, seqLeast, seqMost}, field{"Tag", tag, tagLeast, tagMost}, name == "Add"}
	}
	return []kind{
		one("Hello", api.Msg{Kind: 0, Epoch: 3}, 0, 0, 0, 0),
		one("Ack", api.Msg{Kind: 1, Epoch: 3, Seq: 258, Tag: 17}, 0, 1048576, 0, 4095),
		one("Add", api.Msg{Kind: 2, Epoch: 3, Seq: 258, Tag: 17, R: forward(ten, 8, -1, 5, 2)}, 1, 1048576, 1, 4095),
		one("Flip", api.Msg{Kind: 3, Epoch: 3, Seq: 258, Tag: 17}, 1, 1048576, 1, 4095),
		one("Collect", api.Msg{Kind: 4, Epoch: 3, Seq: 258, Tag: 17}, 1, 1048576, 1, 4095),
		one("Open", api.Msg{Kind: 5, Epoch: 3, Seq: 258}, 1, 1048576, 0, 0),
	}
}

func (k kind) fields() []field { return []field{k.epoch, k.seq, k.tag} }

// good are messages of a kind with each field at its edges, one at a time and all at once.
func (k kind) good() []api.Msg {
	l := []api.Msg{k.mid}
	lows, highs := k.mid, k.mid
	for _, f := range k.fields() {
		for _, n := range []int{f.least, min(f.least+1, f.most), max(f.most-1, f.least), f.most} {
			m := k.mid
			*f.at(&m) = n
			l = append(l, m)
		}
		*f.at(&lows), *f.at(&highs) = f.least, f.most
	}
	l = append(l, lows, highs)
	if k.tellsOfRule {
		for _, r := range []api.Rule{{}, forward(0, 0, -1, 0, 0), forward(1<<32-1, 32, 7, 255, 7), {P: api.Prefix{Addr: 1 << 31, Len: 1}, In: 3, Prio: 9}} {
			m := k.mid
			m.R = r
			lows.R, highs.R = r, r
			l = append(l, m, lows, highs)
		}
	}
	return l
}

// bad are messages of a kind of which just one thing may not be.
func (k kind) bad() map[string][]api.Msg {
	all := map[string][]api.Msg{}
	for _, f := range k.fields() {
		for _, n := range []int{f.least - 1, f.least - 2, f.most + 1, f.most + 2, -1, -f.most - 1, 1<<24 + 1, 1 << 32, 1<<32 + 1, -1 << 32, 1 << 40, math.MaxInt, math.MinInt, math.MinInt + 1} {
			m := k.mid
			*f.at(&m) = n
			all[f.name] = append(all[f.name], m)
		}
	}
	for _, n := range []int{-1, -2, 6, 7, 8, 255, 256, 258, 1 << 32, 1<<32 + 2, math.MaxInt, math.MinInt} {
		m := k.mid
		m.Kind = n
		all["Kind"] = append(all["Kind"], m)
	}
	rules := strayRules()
	if k.tellsOfRule {
		rules = wrongRules()
	}
	for _, r := range rules {
		m := k.mid
		m.R = r
		all["R"] = append(all["R"], m)
	}
	return all
}

// strayRules may be, most of them, but are not noughts; each of a rule's fields is the only one in one of them.
func strayRules() []api.Rule {
	return []api.Rule{
		forward(ten, 8, -1, 5, 2), forward(0, 0, -1, 0, 0), {In: -1}, {In: 1}, {Prio: 1}, {P: api.Prefix{Len: 1}}, {P: api.Prefix{Addr: 1}},
		{Act: api.Action{Kind: api.Forward}}, {Act: api.Action{Port: 1}}, {Act: api.Action{Kind: math.MinInt, Port: math.MaxInt}},
	}
}

func wrongRules() []api.Rule {
	return []api.Rule{
		forward(ten, 6, -1, 5, 2), forward(ten+1, 8, -1, 5, 2), forward(ten, -1, -1, 5, 2), forward(0, 33, -1, 5, 2), forward(-1, 32, -1, 5, 2), forward(1<<32, 32, -1, 5, 2),
		forward(ten, 8, -2, 5, 2), forward(ten, 8, 8, 5, 2), forward(ten, 8, -1, -1, 2), forward(ten, 8, -1, 256, 2), forward(ten, 8, -1, 5, -1), forward(ten, 8, -1, 5, 8),
		{Act: api.Action{Kind: api.Drop, Port: 1}}, {Act: api.Action{Kind: 2}}, {Act: api.Action{Kind: -1}}, {In: math.MaxInt}, {In: math.MinInt}, {Prio: math.MaxInt}, {P: api.Prefix{Len: math.MinInt}},
	}
}

// counter makes numbers from a number, the same ones each time.
type counter uint64

func (c *counter) next(below int) int {
	*c = *c*6364136223846793005 + 1442695040888963407
	return int(uint64(*c)>>31) % below
}

// from is often an edge.
func (c *counter) from(least, most int) int {
	switch c.next(4) {
	case 0:
		return least
	case 1:
		return most
	}
	return least + c.next(most-least+1)
}

func (c *counter) rule() api.Rule {
	n := c.from(0, 32)
	size := 1 << (32 - n)
	r := api.Rule{P: api.Prefix{Addr: c.from(0, 1<<32-1) / size * size, Len: n}, In: c.from(-1, 7), Prio: c.from(0, 255)}
	if c.next(3) > 0 {
		r.Act = api.Action{Kind: api.Forward, Port: c.from(0, 7)}
	}
	return r
}

// msg is one that may be.
func (c *counter) msg() api.Msg {
	l := kinds()
	k := l[c.next(len(l))]
	m := k.mid
	for _, f := range k.fields() {
		*f.at(&m) = c.from(f.least, f.most)
	}
	if k.tellsOfRule {
		m.R = c.rule()
	}
	return m
}

// raw are bytes with numbers about the edges, of which many are of no message.
func (c *counter) raw() []byte {
	b := raw(byte(c.next(8)), uint32(c.from(0, 1<<20+1)), uint32(c.from(0, 1<<20+1)), uint16(c.from(0, 4097)))
	if b[0] == 2 {
		b = append(b, rawRule(c.rule())...)
	}
	return b
}

func TestMayEdges(t *testing.T) { // P5.1: of each kind, each field at its least and at its greatest
	for _, k := range kinds() {
		for _, m := range k.good() {
			if !May(m) {
				t.Errorf("%s: May(%+v) = false", k.name, m)
			}
		}
	}
}

func TestMayRefuses(t *testing.T) { // P5.1
	for _, k := range kinds() {
		for name, l := range k.bad() {
			for _, m := range l {
				if May(m) {
					t.Errorf("%s: %s: May(%+v) = true", k.name, name, m)
				}
			}
		}
	}
	if May(api.Msg{}) {
		t.Error("May of noughts = true, but an Epoch is from 1 on")
	}
}

// TestMayCorners takes all kinds with all fields about their edges at once.
func TestMayCorners(t *testing.T) { // P5.1
	good := 0
	for kind := -2; kind <= 8; kind++ {
		for _, epoch := range []int{-1, 0, 1, 2, 1 << 20, 1<<20 + 1} {
			for _, seq := range []int{-1, 0, 1, 2, 1 << 20, 1<<20 + 1} {
				for _, tag := range []int{-1, 0, 1, 2, 4095, 4096} {
					for _, r := range []api.Rule{{}, forward(ten, 8, -1, 5, 2), forward(ten, 8, 8, 5, 2)} {
						m := api.Msg{Kind: kind, Epoch: epoch, Seq: seq, Tag: tag, R: r}
						if got := May(m); got != mayModel(m) {
							t.Errorf("May(%+v) = %v", m, got)
						}
						if mayModel(m) {
							good++
						}
					}
				}
			}
		}
	}
	// of 3 Epochs each: a Hello; Acks of 4 Seqs and 4 Tags; Adds of 3, 3 and 2 rules; Flips and Collects of 3 and 3; Opens of 3
	if want := 3 * (1 + 16 + 18 + 9 + 9 + 3); good != want {
		t.Errorf("%d may be, want %d", good, want)
	}
}

func TestPutExamples(t *testing.T) { // P5.2
	for _, x := range []struct {
		m    api.Msg
		want []byte
	}{
		{api.Msg{Kind: api.Hello, Epoch: 3}, []byte{0, 0, 0, 3, 0, 0, 0, 0, 0}},
		{api.Msg{Kind: api.Hello, Epoch: 1 << 20}, []byte{0, 16, 0, 0, 0, 0, 0, 0, 0}},
		{api.Msg{Kind: api.Ack, Epoch: 1}, []byte{1, 0, 0, 1, 0, 0, 0, 0, 0}},
		{api.Msg{Kind: api.Ack, Epoch: 1 << 20, Seq: 1 << 20, Tag: 4095}, []byte{1, 16, 0, 0, 16, 0, 0, 15, 255}},
		{api.Msg{Kind: api.Ack, Epoch: 0x010203, Seq: 0x040506, Tag: 0x0708}, []byte{1, 1, 2, 3, 4, 5, 6, 7, 8}},
		{api.Msg{Kind: api.Add, Epoch: 1, Seq: 1, Tag: 1}, []byte{2, 0, 0, 1, 0, 0, 1, 0, 1, 0, 0, 0, 0, 0, 1, 0, 0, 0}},
		{api.Msg{Kind: api.Add, Epoch: 3, Seq: 258, Tag: 4095, R: forward(ten, 8, -1, 5, 2)}, []byte{2, 0, 0, 3, 0, 1, 2, 15, 255, 10, 0, 0, 0, 8, 0, 5, 1, 2}},
		{api.Msg{Kind: api.Add, Epoch: 1 << 20, Seq: 1 << 20, Tag: 4095, R: forward(1<<32-1, 32, 7, 255, 7)}, []byte{2, 16, 0, 0, 16, 0, 0, 15, 255, 255, 255, 255, 255, 32, 8, 255, 1, 7}},
		{api.Msg{Kind: api.Flip, Epoch: 4, Seq: 5, Tag: 6}, []byte{3, 0, 0, 4, 0, 0, 5, 0, 6}},
		{api.Msg{Kind: api.Collect, Epoch: 4, Seq: 5, Tag: 6}, []byte{4, 0, 0, 4, 0, 0, 5, 0, 6}},
		{api.Msg{Kind: api.Open, Epoch: 4, Seq: 1 << 20}, []byte{5, 0, 0, 4, 16, 0, 0, 0, 0}},
	} {
		if b, e := Put(x.m); !bytes.Equal(b, x.want) || e != api.OK {
			t.Errorf("Put(%+v) = %v, %d; want %v", x.m, b, e, x.want)
		}
		if m, e := Get(x.want); m != x.m || e != api.OK {
			t.Errorf("Get(%v) = %+v, %d; want %+v", x.want, m, e, x.m)
		}
	}
}

func TestPutRefuses(t *testing.T) { // P5.2
	for _, k := range kinds() {
		for name, l := range k.bad() {
			for _, m := range l {
				if b, e := Put(m); len(b) != 0 || e != api.ErrArg {
					t.Errorf("%s: %s: Put(%+v) = %v, %d; want ErrArg and no bytes", k.name, name, m, b, e)
				}
			}
		}
	}
}

// TestGetByLength cuts and lengthens bytes of all first bytes; what else is wrong does not count there.
func TestGetByLength(t *testing.T) { // P5.2
	for first := range 256 {
		must := 9
		if first == api.Add {
			must = 18
		}
		for _, fill := range []byte{0, 1, 255} {
			long := bytes.Repeat([]byte{fill}, 30)
			long[0] = byte(first)
			for n := range long {
				if n == must {
					continue
				}
				want := api.ErrMore
				if n > must {
					want = api.ErrForm
				}
				if m, e := Get(long[:n]); m != (api.Msg{}) || e != want {
					t.Errorf("Get(%v) = %+v, %d; want error %d and noughts", long[:n], m, e, want)
				}
			}
		}
	}
	for _, b := range [][]byte{nil, {}} {
		if m, e := Get(b); m != (api.Msg{}) || e != api.ErrMore {
			t.Errorf("Get of no bytes = %+v, %d; want ErrMore", m, e)
		}
	}
}

func TestGetCutAndLengthened(t *testing.T) { // P5.2: of each kind all its bytes, one fewer, one more, two messages
	for _, k := range kinds() {
		for _, want := range k.good() {
			b, _ := putModel(want)
			if m, e := Get(b); m != want || e != api.OK {
				t.Errorf("%s: Get(%v) = %+v, %d; want %+v", k.name, b, m, e, want)
			}
			for n := range b {
				if m, e := Get(b[:n]); m != (api.Msg{}) || e != api.ErrMore {
					t.Errorf("%s: Get(%v) = %+v, %d; want ErrMore and noughts", k.name, b[:n], m, e)
				}
			}
			for _, behind := range [][]byte{{0}, {1}, {255}, rawRule(api.Rule{}), rawRule(forward(ten, 8, -1, 5, 2)), b} {
				long := append(bytes.Clone(b), behind...)
				if m, e := Get(long); m != (api.Msg{}) || e != api.ErrForm {
					t.Errorf("%s: Get(%v) = %+v, %d; want ErrForm and noughts", k.name, long, m, e)
				}
			}
		}
	}
}

func TestGetWhatMayNotBe(t *testing.T) { // P5.2
	good := rawRule(forward(ten, 8, -1, 5, 2))
	add := func(epoch, seq uint32, tag uint16, r ...byte) []byte { return append(raw(2, epoch, seq, tag), r...) }
	for _, b := range [][]byte{
		raw(0, 0, 0, 0), raw(0, 1<<20+1, 0, 0), raw(0, 1<<24-1, 0, 0), raw(0, 3, 1, 0), raw(0, 3, 0, 1),
		raw(1, 0, 1, 1), raw(1, 1<<20+1, 1, 1), raw(1, 3, 1<<20+1, 1), raw(1, 3, 1<<24-1, 1), raw(1, 3, 1, 4096), raw(1, 3, 1, 65535),
		add(0, 1, 1, good...), add(1<<20+1, 1, 1, good...), add(1, 0, 1, good...), add(1, 1<<20+1, 1, good...), add(1, 1, 0, good...), add(1, 1, 4096, good...),
		add(1, 1, 1, 10, 0, 0, 1, 8, 0, 5, 1, 2), add(1, 1, 1, 10, 0, 0, 0, 33, 0, 5, 1, 2), add(1, 1, 1, 10, 0, 0, 0, 8, 9, 5, 1, 2), add(1, 1, 1, 10, 0, 0, 0, 8, 0, 5, 0, 2), add(1, 1, 1, 10, 0, 0, 0, 8, 0, 5, 2, 0), add(1, 1, 1, 10, 0, 0, 0, 8, 0, 5, 1, 8),
		add(0, 0, 0, 255, 255, 255, 255, 255, 255, 255, 255, 255),
		raw(3, 0, 1, 1), raw(3, 1, 0, 1), raw(3, 1, 1, 0), raw(3, 1, 1<<20+1, 1), raw(3, 1, 1, 4096),
		raw(4, 0, 1, 1), raw(4, 1, 0, 1), raw(4, 1, 1, 0), raw(4, 1, 1<<20+1, 1), raw(4, 1, 1, 4096),
		raw(5, 0, 1, 0), raw(5, 1, 0, 0), raw(5, 1, 1, 1), raw(5, 1, 1<<20+1, 0), raw(5, 1<<20+1, 1, 0),
		raw(6, 1, 0, 0), raw(6, 1, 1, 1), raw(7, 1, 0, 0), raw(128, 1, 1, 0), raw(255, 1, 0, 0),
	} {
		if m, e := Get(b); m != (api.Msg{}) || e != api.ErrForm {
			t.Errorf("Get(%v) = %+v, %d; want ErrForm and noughts", b, m, e)
		}
	}
}

// TestGetAllBytes sets each byte of a message of each kind to all that a byte may be.
func TestGetAllBytes(t *testing.T) { // P5.2
	for _, k := range kinds() {
		whole, _ := putModel(k.mid)
		for i := range whole {
			for n := range 256 {
				b := bytes.Clone(whole)
				b[i] = byte(n)
				want, wantE := getModel(b)
				if m, e := Get(b); m != want || e != wantE {
					t.Errorf("Get(%v) = %+v, %d; want %+v, %d", b, m, e, want, wantE)
				}
			}
		}
	}
}

func TestPutAndGetAgainstModel(t *testing.T) { // P5.2
	c := counter(1)
	seen := map[api.Errno]int{}
	for range 20000 {
		m := c.msg()
		want, wantE := putModel(m)
		if b, e := Put(m); !bytes.Equal(b, want) || e != wantE {
			t.Fatalf("Put(%+v) = %v, %d; want %v, %d", m, b, e, want, wantE)
		}
		b := c.raw()
		switch c.next(4) {
		case 0:
			b[c.next(len(b))] = byte(c.next(256))
		case 1:
			b = append(b, byte(c.next(256)), byte(c.next(256)))[:c.next(len(b)+3)]
		case 2:
			b = want
		}
		wantM, wantE := getModel(b)
		if m, e := Get(b); m != wantM || e != wantE {
			t.Errorf("Get(%v) = %+v, %d; want %+v, %d", b, m, e, wantM, wantE)
		}
		seen[wantE]++
	}
	for _, e := range []api.Errno{api.OK, api.ErrForm, api.ErrMore} {
		if seen[e] < 1000 {
			t.Errorf("error %d was asked for only %d times", e, seen[e])
		}
	}
}

func TestPutIsGot(t *testing.T) { // P5.3
	var l []api.Msg
	for _, k := range kinds() {
		l = append(l, k.good()...)
	}
	c := counter(2)
	for range 5000 {
		l = append(l, c.msg())
	}
	for _, m := range l {
		b, e := Put(m)
		if e != api.OK || len(b) != 9 && (len(b) != 18 || m.Kind != api.Add) {
			t.Fatalf("Put(%+v) = %v, %d", m, b, e)
		}
		if got, e := Get(b); got != m || e != api.OK {
			t.Errorf("%+v is got as %+v, %d", m, got, e)
		}
	}
}

func TestGotIsPut(t *testing.T) { // P5.3
	c := counter(3)
	var got [api.Msgs]int
	for range 40000 {
		b := c.raw()
		m, e := Get(b)
		if e != api.OK {
			continue
		}
		got[m.Kind]++
		if again, e := Put(m); !bytes.Equal(again, b) || e != api.OK {
			t.Errorf("%v is put as %v, %d", b, again, e)
		}
	}
	for kind, n := range got {
		if n < 50 {
			t.Errorf("only %d were messages of the kind %d", n, kind)
		}
	}
}

func TestArgumentsStay(t *testing.T) { // R3
	for _, k := range kinds() {
		b, _ := putModel(k.mid)
		room := append(b, 6, 7, 8)
		kept := bytes.Clone(room)
		for n := range room {
			Get(room[:n])
			if !bytes.Equal(room, kept) {
				t.Fatalf("%s: Get of %d bytes changed them, or what stands behind: %v", k.name, n, room)
			}
		}
	}
}

func TestAnswersAreOwn(t *testing.T) { // R3, R5: what a caller writes into an answer is not to be seen in the next one
	for _, k := range kinds() {
		want, _ := putModel(k.mid)
		for range 3 {
			b, e := Put(k.mid)
			if !bytes.Equal(b, want) || e != api.OK {
				t.Fatalf("%s: Put(%+v) = %v, %d; it hangs on an earlier answer", k.name, k.mid, b, e)
			}
			for i := range b {
				b[i] = 9
			}
			_ = append(b, 9)
			if got, e := Get(want); got != k.mid || e != api.OK {
				t.Fatalf("%s: Get(%v) = %+v, %d", k.name, want, got, e)
			}
		}
	}
}
