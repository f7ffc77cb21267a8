package frame

import (
	"bytes"
	"encoding/binary"
	"math"
	"slices"
	"testing"

	"wayfinder/api"
	"wayfinder/msg"
)

// The model that the calls are held against finds checksums by remainders, and errors by a plain switch. Of a message's bytes msg is asked, as the chapter does.

// sumModel goes by this: to fold a number is to find its remainder by 65535, but that 65535 stays, if the number is not 0.
func sumModel(b []byte) int {
	total := 0
	for pair := range slices.Chunk(b, 2) {
		total += int(binary.BigEndian.Uint16(append(bytes.Clone(pair), 0)))
	}
	switch {
	case total == 0:
		return 65535
	case total%65535 == 0:
		return 0
	}
	return 65535 - total%65535
}

// withSum is bytes of an even number with their checksum behind them, whatever they are.
func withSum(b ...byte) []byte {
	return binary.BigEndian.AppendUint16(bytes.Clone(b), uint16(sumModel(b)))
}

// wrap is a frame of any bytes, also such as are of no message, which is well else.
func wrap(body ...byte) []byte {
	b := append([]byte{197, byte(len(body))}, body...)
	if len(body)%2 == 1 {
		b = append(b, 0)
	}
	return withSum(b...)
}

func sealModel(m api.Msg) ([]byte, api.Errno) {
	body, e := msg.Put(m)
	if e != api.OK {
		return nil, e
	}
	return wrap(body...), api.OK
}

func openModel(b []byte) (api.Msg, api.Errno) {
	if len(b) < 4 {
		return api.Msg{}, api.ErrMore
	}
	n := int(b[1])
	must := (n+1)/2*2 + 4
	switch {
	case b[0] != 197:
		return api.Msg{}, api.ErrForm
	case len(b) < must:
		return api.Msg{}, api.ErrMore
	case len(b) > must:
		return api.Msg{}, api.ErrForm
	case sumModel(b) != 0:
		return api.Msg{}, api.ErrSum
	case n%2 == 1 && b[must-3] != 0:
		return api.Msg{}, api.ErrForm
	}
	return msg.Get(b[2 : 2+n])
}

func refused(t *testing.T, b []byte, want api.Errno) {
	t.Helper()
	if m, e := Open(b); m != (api.Msg{}) || e != want {
		t.Errorf("Open(%v) = %+v, %d; want error %d and noughts", b, m, e, want)
	}
}

func opened(t *testing.T, b []byte, want api.Msg) {
	t.Helper()
	if m, e := Open(b); m != want || e != api.OK {
		t.Errorf("Open(%v) = %+v, %d; want %+v", b, m, e, want)
	}
}

func forward(addr, n, in, prio, port int) api.Rule {
	return api.Rule{P: api.Prefix{Addr: addr, Len: n}, In: in, Prio: prio, Act: api.Action{Kind: api.Forward, Port: port}}
}

func tenth() api.Rule { return forward(10<<24, 8, -1, 5, 2) }

// example is a message, and its frame byte by byte.
type example struct {
	m api.Msg
	b []byte
}

// examples are of each kind, in 9 bytes and of Add in 18; the last two have the checksum 0.
func examples() []example {
	return []example{
		{api.Msg{Kind: api.Hello, Epoch: 3}, []byte{197, 9, 0, 0, 0, 3, 0, 0, 0, 0, 0, 0, 58, 243}},
		{api.Msg{Kind: api.Hello, Epoch: 1 << 20}, []byte{197, 9, 0, 16, 0, 0, 0, 0, 0, 0, 0, 0, 58, 230}},
		{api.Msg{Kind: api.Ack, Epoch: 1}, []byte{197, 9, 1, 0, 0, 1, 0, 0, 0, 0, 0, 0, 57, 245}},
		{api.Msg{Kind: api.Ack, Epoch: 1 << 20, Seq: 1 << 20, Tag: 4095}, []byte{197, 9, 1, 16, 0, 0, 16, 0, 0, 15, 255, 0, 42, 214}},
		{api.Msg{Kind: api.Add, Epoch: 1, Seq: 1, Tag: 1}, []byte{197, 18, 2, 0, 0, 1, 0, 0, 1, 0, 1, 0, 0, 0, 0, 0, 1, 0, 0, 0, 53, 236}},
		{api.Msg{Kind: api.Add, Epoch: 3, Seq: 258, Tag: 4095, R: tenth()}, []byte{197, 18, 2, 0, 0, 3, 0, 1, 2, 15, 255, 10, 0, 0, 0, 8, 0, 5, 1, 2, 54, 192}},
		{api.Msg{Kind: api.Add, Epoch: 1 << 20, Seq: 1 << 20, Tag: 4095, R: forward(1<<32-1, 32, 7, 255, 7)}, []byte{197, 18, 2, 16, 0, 0, 16, 0, 0, 15, 255, 255, 255, 255, 255, 32, 8, 255, 1, 7, 31, 167}},
		{api.Msg{Kind: api.Flip, Epoch: 4, Seq: 5, Tag: 6}, []byte{197, 9, 3, 0, 0, 4, 0, 0, 5, 0, 6, 0, 44, 242}},
		{api.Msg{Kind: api.Collect, Epoch: 4, Seq: 5, Tag: 6}, []byte{197, 9, 4, 0, 0, 4, 0, 0, 5, 0, 6, 0, 43, 242}},
		{api.Msg{Kind: api.Open, Epoch: 4, Seq: 1 << 20}, []byte{197, 9, 5, 0, 0, 4, 16, 0, 0, 0, 0, 0, 37, 242}},
		{api.Msg{Kind: api.Hello, Epoch: 15094}, []byte{197, 9, 0, 0, 58, 246, 0, 0, 0, 0, 0, 0, 0, 0}},
		{api.Msg{Kind: api.Add, Epoch: 3, Seq: 53552, Tag: 7, R: tenth()}, []byte{197, 18, 2, 0, 0, 3, 0, 209, 48, 0, 7, 10, 0, 0, 0, 8, 0, 5, 1, 2, 0, 0}},
	}
}

// counter makes numbers from a number, the same ones each time.
type counter uint64

func (c *counter) next(below int) int {
	*c = *c*6364136223846793005 + 1442695040888963407
	return int(uint64(*c)>>31) % below
}

// from is often an edge.
func (c *counter) from(least, most int) int {
	switch c.next(4) {
	case 0:
		return least
	case 1:
		return most
	}
	return least + c.next(most-least+1)
}

// msg is one that may be.
func (c *counter) msg() api.Msg {
	m := api.Msg{Kind: c.next(6), Epoch: c.from(1, 1<<20)}
	if m.Kind == api.Hello {
		return m
	}
	m.Seq = c.from(1, 1<<20)
	if m.Kind == api.Open {
		return m
	}
	m.Tag = c.from(1, 4095)
	if m.Kind == api.Add {
		n := c.from(0, 32)
		m.R = forward(c.from(0, 1<<32-1)>>(32-n)<<(32-n), n, c.from(-1, 7), c.from(0, 255), c.from(0, 7))
	}
	return m
}

func (c *counter) bytes(n int) []byte {
	b := make([]byte, n)
	for i := range b {
		b[i] = byte(c.from(0, 255))
	}
	return b
}

func TestExamples(t *testing.T) { // P6.1
	for _, x := range examples() {
		if b, e := Seal(x.m); !bytes.Equal(b, x.b) || e != api.OK {
			t.Errorf("Seal(%+v) = %v, %d; want %v", x.m, b, e, x.b)
		}
		opened(t, x.b, x.m)
	}
}

func TestSealRefuses(t *testing.T) { // P6.1: a message that may not be
	for _, m := range []api.Msg{
		{},
		{Kind: -1, Epoch: 1}, {Kind: 6, Epoch: 1}, {Kind: 256, Epoch: 1}, {Kind: math.MinInt, Epoch: 1}, {Kind: math.MaxInt, Epoch: 1},
		{Kind: api.Hello, Epoch: -1}, {Kind: api.Hello, Epoch: 1<<20 + 1}, {Kind: api.Hello, Epoch: math.MaxInt}, {Kind: api.Hello, Epoch: 1, Seq: 1}, {Kind: api.Hello, Epoch: 1, Tag: 1}, {Kind: api.Hello, Epoch: 1, R: tenth()},
		{Kind: api.Ack, Epoch: 1, Seq: -1}, {Kind: api.Ack, Epoch: 1, Tag: 4096}, {Kind: api.Ack, Epoch: 1, Seq: 1, Tag: 1, R: tenth()},
		{Kind: api.Add, Epoch: 1, Seq: 0, Tag: 1, R: tenth()}, {Kind: api.Add, Epoch: 1, Seq: 1, Tag: 0, R: tenth()}, {Kind: api.Add, Epoch: 1, Seq: 1, Tag: 1, R: forward(1, 8, -1, 5, 2)}, {Kind: api.Add, Epoch: 1, Seq: 1, Tag: 1, R: forward(0, 8, -1, 5, math.MinInt)},
		{Kind: api.Flip, Epoch: 1, Seq: 1}, {Kind: api.Flip, Epoch: 1, Tag: 1}, {Kind: api.Collect, Epoch: 1, Seq: 1<<20 + 1, Tag: 1}, {Kind: api.Collect, Epoch: 1, Seq: 1, Tag: math.MinInt},
		{Kind: api.Open, Epoch: 1}, {Kind: api.Open, Epoch: 1, Seq: 1, Tag: 1},
	} {
		if b, e := Seal(m); len(b) != 0 || e != api.ErrArg {
			t.Errorf("Seal(%+v) = %v, %d; want ErrArg and no bytes", m, b, e)
		}
	}
}

// TestOpenFewBytes asks for the number of bytes ahead of the first one's being 197.
func TestOpenFewBytes(t *testing.T) { // P6.1: no bytes, 3, 4 and 5
	refused(t, nil, api.ErrMore)
	refused(t, []byte{}, api.ErrMore)
	for first := range 256 {
		for _, second := range []byte{0, 1, 2, 9, 255} {
			b := []byte{byte(first), second, 0, 0, 0}
			for n := 1; n < 4; n++ {
				refused(t, b[:n], api.ErrMore)
			}
			if first != 197 {
				refused(t, b[:4], api.ErrForm)
				refused(t, b, api.ErrForm)
			}
		}
	}
	refused(t, []byte{197, 0, 0, 0}, api.ErrSum)
	refused(t, []byte{197, 0, 58, 255}, api.ErrMore) // well but that no bytes are no message
	refused(t, []byte{197, 0, 58, 255, 0}, api.ErrForm)
	for _, n := range []byte{1, 2, 3, 9, 18, 254, 255} {
		refused(t, withSum(197, n), api.ErrMore)
		refused(t, append(withSum(197, n), 0), api.ErrMore)
	}
}

// TestOpenFirstByte asks for it ahead of how many bytes there are, and of what they come to.
func TestOpenFirstByte(t *testing.T) { // P6.1
	for _, x := range examples() {
		for first := range 256 {
			if first == 197 {
				continue
			}
			other := bytes.Clone(x.b)
			other[0] = byte(first)
			refused(t, other, api.ErrForm)
			refused(t, other[:len(other)-1], api.ErrForm)
			refused(t, other[:4], api.ErrForm)
			refused(t, append(bytes.Clone(other), 0), api.ErrForm)
			refused(t, withSum(other[:len(other)-2]...), api.ErrForm)
		}
	}
}

// TestOpenByLength takes all that the second byte may be: with each of these, one byte fewer than there must be, as many, and one more.
func TestOpenByLength(t *testing.T) { // P6.1
	for n := range 256 {
		must := n + 4
		if n%2 == 1 {
			must = n + 5
		}
		for _, fill := range []byte{0, 1, 197, 255} {
			long := bytes.Repeat([]byte{fill}, 600)
			long[0], long[1] = 197, byte(n)
			for l := 4; l < must; l++ {
				refused(t, long[:l], api.ErrMore)
			}
			for _, l := range []int{must + 1, must + 2, must + 3, 300, 600} {
				refused(t, long[:l], api.ErrForm)
			}
			wrong := withSum(long[:must-2]...) // as many: what is asked next is the checksum
			wrong[must-1] ^= 1
			refused(t, wrong, api.ErrSum)
		}
	}
	refused(t, append([]byte{197, 255}, make([]byte, 1<<20)...), api.ErrForm)
}

// TestOpenByLengthWithSum has the checksum right also where bytes are missing or too many, so that the number of bytes alone is wrong.
func TestOpenByLengthWithSum(t *testing.T) { // P6.1
	for _, x := range examples() {
		whole := x.b[:len(x.b)-2]
		for l := 2; l < len(whole); l += 2 {
			refused(t, withSum(whole[:l]...), api.ErrMore)
		}
		for more := 2; more < 12; more += 2 {
			refused(t, withSum(append(bytes.Clone(whole), make([]byte, more)...)...), api.ErrForm)
		}
		refused(t, append(bytes.Clone(x.b), 0), api.ErrForm)
		refused(t, append(bytes.Clone(x.b), 255, 255), api.ErrForm)
		refused(t, append(bytes.Clone(x.b), x.b...), api.ErrForm)
		for l := 4; l < len(x.b); l++ {
			refused(t, x.b[:l], api.ErrMore)
		}
	}
}

// TestOpenChecksums sets a frame's last two bytes to all that they may be.
func TestOpenChecksums(t *testing.T) { // P6.1
	for _, x := range examples() {
		b := bytes.Clone(x.b)
		right := binary.BigEndian.Uint16(x.b[len(b)-2:])
		for sum := range 65536 {
			binary.BigEndian.PutUint16(b[len(b)-2:], uint16(sum))
			if sum == int(right) || right == 0 && sum == 65535 {
				opened(t, b, x.m) // Sum of all is 0 also where a checksum of 0 stands as 65535
			} else {
				refused(t, b, api.ErrSum)
			}
		}
	}
}

// TestOpenNought sets the nought behind bytes of an odd number to all that it may be, with and without a checksum that has it.
func TestOpenNought(t *testing.T) { // P6.1
	for _, body := range [][]byte{
		{0, 0, 0, 3, 0, 0, 0, 0, 0}, {3, 0, 0, 4, 0, 0, 5, 0, 6}, // messages
		{0}, {2, 0, 0}, {0, 0, 0, 3, 0, 0, 0}, // msg's error would be ErrMore
		make([]byte, 11), make([]byte, 255), {9, 0, 0, 3, 0, 0, 0, 0, 0}, // ErrForm
	} {
		whole := wrap(body...)
		at := len(whole) - 3
		for nought := 1; nought < 256; nought++ {
			b := bytes.Clone(whole)
			b[at] = byte(nought)
			refused(t, b, api.ErrSum)
			b = withSum(b[:at+1]...)
			if sumModel(b) != 0 {
				t.Fatalf("%v is no frame of the Sum 0", b)
			}
			refused(t, b, api.ErrForm)
		}
	}
}

// TestOpenEvenHasNoNought ends bytes of an even number in all that their last one may be.
func TestOpenEvenHasNoNought(t *testing.T) { // P6.1
	for port := range 8 {
		m := api.Msg{Kind: api.Add, Epoch: 3, Seq: 258, Tag: 17, R: forward(10<<24, 8, -1, 5, port)}
		b := wrap(2, 0, 0, 3, 0, 1, 2, 0, 17, 10, 0, 0, 0, 8, 0, 5, 1, byte(port))
		if len(b) != 22 {
			t.Fatalf("%v is of %d bytes", b, len(b))
		}
		opened(t, b, m)
	}
	for last := range 256 { // too few for a message, which is msg's to tell, whatever the last one is
		refused(t, wrap(0, 0, 0, 3, 0, 0, 0, byte(last)), api.ErrMore)
	}
}

func TestOpenNoMessage(t *testing.T) { // P6.1: in a frame that is well else
	for _, x := range []struct {
		body []byte
		want api.Errno
	}{
		{nil, api.ErrMore}, {[]byte{7}, api.ErrMore}, {[]byte{0, 0}, api.ErrMore},
		{[]byte{0, 0, 0, 3, 0, 0, 0, 0}, api.ErrMore},
		{[]byte{0, 0, 0, 3, 0, 0, 0, 0, 0, 0}, api.ErrForm},
		{[]byte{0, 0, 0, 0, 0, 0, 0, 0, 0}, api.ErrForm}, // a Hello of the epoch 0
		{[]byte{0, 0, 0, 3, 0, 0, 1, 0, 0}, api.ErrForm},
		{[]byte{6, 0, 0, 3, 0, 0, 1, 0, 0}, api.ErrForm},
		{[]byte{255, 255, 255, 255, 255, 255, 255, 255, 255}, api.ErrForm},
		{[]byte{2, 0, 0, 3, 0, 1, 2, 0, 17}, api.ErrMore}, // an Add without its rule
		{[]byte{2, 0, 0, 3, 0, 1, 2, 0, 17, 10, 0, 0, 0, 8, 0, 5, 1}, api.ErrMore},
		{[]byte{2, 0, 0, 3, 0, 1, 2, 0, 17, 10, 0, 0, 1, 8, 0, 5, 1, 2}, api.ErrForm},
		{[]byte{2, 0, 0, 3, 0, 1, 2, 0, 17, 10, 0, 0, 0, 8, 0, 5, 1, 2, 0}, api.ErrForm},
		{[]byte{2, 0, 0, 3, 0, 0, 0, 0, 17, 10, 0, 0, 0, 8, 0, 5, 1, 2}, api.ErrForm},
		{make([]byte, 254), api.ErrForm}, {make([]byte, 255), api.ErrForm},
	} {
		refused(t, wrap(x.body...), x.want)
	}
}

func TestAgainstModel(t *testing.T) { // P6.1
	c := counter(1)
	seen := map[api.Errno]int{}
	for range 40000 {
		m := c.msg()
		b, wantE := sealModel(m)
		if got, e := Seal(m); !bytes.Equal(got, b) || e != wantE {
			t.Fatalf("Seal(%+v) = %v, %d; want %v, %d", m, got, e, b, wantE)
		}
		switch c.next(6) {
		case 0:
			b[c.next(len(b))] = byte(c.next(256))
		case 1:
			b = append(b, c.bytes(3)...)[:c.next(len(b)+4)]
		case 2: // another byte, and the checksum with it
			b[c.next(len(b)-2)] = byte(c.from(0, 255))
			b = withSum(b[:len(b)-2]...)
		case 3:
			b = wrap(c.bytes(c.from(0, 20))...)
		case 4:
			b = c.bytes(c.from(0, 12))
		}
		want, wantE := openModel(b)
		if got, e := Open(b); got != want || e != wantE {
			t.Fatalf("Open(%v) = %+v, %d; want %+v, %d", b, got, e, want, wantE)
		}
		seen[wantE]++
	}
	for _, e := range []api.Errno{api.OK, api.ErrForm, api.ErrMore, api.ErrSum} {
		if seen[e] < 1000 {
			t.Errorf("error %d was asked for only %d times", e, seen[e])
		}
	}
}

func TestSealedIsOpened(t *testing.T) { // P6.2
	c := counter(2)
	var sealed [api.Msgs]int
	for range 20000 {
		m := c.msg()
		b, e := Seal(m)
		if e != api.OK || len(b) != 14 && (len(b) != 22 || m.Kind != api.Add) {
			t.Fatalf("Seal(%+v) = %v, %d", m, b, e)
		}
		opened(t, b, m)
		sealed[m.Kind]++
	}
	for kind, n := range sealed {
		if n < 1000 {
			t.Errorf("only %d were messages of the kind %d", n, kind)
		}
	}
}

// TestOtherByte sets each byte of a frame to all that it is not.
func TestOtherByte(t *testing.T) { // P6.2, and P6.1's error for each
	var l []api.Msg
	for _, x := range examples() {
		l = append(l, x.m)
	}
	c := counter(3)
	for range 50 {
		l = append(l, c.msg())
	}
	for _, m := range l {
		whole, e := Seal(m)
		if e != api.OK {
			t.Fatalf("Seal(%+v): %d", m, e)
		}
		for i := range whole {
			for n := range 256 {
				if n != int(whole[i]) {
					b := bytes.Clone(whole)
					b[i] = byte(n)
					refused(t, b, errorOfByte(whole, i, n))
				}
			}
		}
	}
}

// errorOfByte is what is told of a frame whose byte i is n: a second byte may ask for as many bytes as there are, with and without a nought.
func errorOfByte(whole []byte, i, n int) api.Errno {
	must := n + n%2 + 4
	switch {
	case i == 0:
		return api.ErrForm
	case i == 1 && must > len(whole):
		return api.ErrMore
	case i == 1 && must < len(whole):
		return api.ErrForm
	}
	return api.ErrSum
}

func TestArgumentsStay(t *testing.T) { // R3
	for _, x := range examples() {
		room := append(bytes.Clone(x.b), 6, 7, 8)
		kept := bytes.Clone(room)
		for n := range room {
			Open(room[:n])
			if !bytes.Equal(room, kept) {
				t.Fatalf("Open of %d bytes changed them, or what stands behind: %v", n, room)
			}
		}
	}
}

func TestAnswersAreOwn(t *testing.T) { // R3, R5: what a caller writes into an answer is not to be seen in the next one
	for _, x := range examples() {
		for range 3 {
			b, e := Seal(x.m)
			if !bytes.Equal(b, x.b) || e != api.OK {
				t.Fatalf("Seal(%+v) = %v, %d; it hangs on an earlier answer", x.m, b, e)
			}
			for i := range b {
				b[i] = 9
			}
			_ = append(b, 9)
			opened(t, x.b, x.m)
		}
	}
}
