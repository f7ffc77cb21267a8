package packet

import (
	"bytes"
	"encoding/binary"
	"math"
	"testing"

	"wayfinder/api"
)

// The model that the calls are held against writes fields by the library's binary order and works checksums out as rests by 65535, so that it shares no table and no folding with them.

func mayModel(p api.Packet) bool {
	within := func(n, most int) bool { return 0 <= n && n <= most }
	return within(p.Id, 4294967295) && within(p.Src, 4294967295) && within(p.Dst, 4294967295) && within(p.TTL, 16) && within(p.Tag, 4095)
}

// wordSum: folding keeps the rest by 65535, and a sum above 0 is never folded to 0.
func wordSum(b []byte) int {
	n := 0
	for i := 0; i+1 < len(b); i += 2 {
		n += int(binary.BigEndian.Uint16(b[i:]))
	}
	if n == 0 {
		return 65535
	}
	return 65534 - (n-1)%65535
}

// rawBytes are 18 bytes with a right checksum, also of a TTL or a Tag that may not be.
func rawBytes(id, src, dst uint32, ttl, tag uint16) []byte {
	b := binary.BigEndian.AppendUint32(nil, id)
	b = binary.BigEndian.AppendUint32(b, src)
	b = binary.BigEndian.AppendUint32(b, dst)
	b = binary.BigEndian.AppendUint16(b, ttl)
	b = binary.BigEndian.AppendUint16(b, tag)
	return binary.BigEndian.AppendUint16(b, uint16(wordSum(b)))
}

func putModel(p api.Packet) ([]byte, api.Errno) {
	if !mayModel(p) {
		return nil, api.ErrArg
	}
	return rawBytes(uint32(p.Id), uint32(p.Src), uint32(p.Dst), uint16(p.TTL), uint16(p.Tag)), api.OK
}

func getModel(b []byte) (api.Packet, api.Errno) {
	switch {
	case len(b) < 18:
		return api.Packet{}, api.ErrMore
	case len(b) > 18:
		return api.Packet{}, api.ErrForm
	case wordSum(b) != 0:
		return api.Packet{}, api.ErrSum
	}
	p := api.Packet{
		Id: int(binary.BigEndian.Uint32(b)), Src: int(binary.BigEndian.Uint32(b[4:])), Dst: int(binary.BigEndian.Uint32(b[8:])),
		TTL: int(binary.BigEndian.Uint16(b[12:])), Tag: int(binary.BigEndian.Uint16(b[14:])),
	}
	if !mayModel(p) {
		return api.Packet{}, api.ErrForm
	}
	return p, api.OK
}

// fieldsOf are a packet's fields with their greatest, to set one at a time.
func fieldsOf(p *api.Packet) map[string]struct {
	at   *int
	most int
} {
	type one = struct {
		at   *int
		most int
	}
	return map[string]one{
		"Id": {&p.Id, 1<<32 - 1}, "Src": {&p.Src, 1<<32 - 1}, "Dst": {&p.Dst, 1<<32 - 1}, "TTL": {&p.TTL, 16}, "Tag": {&p.Tag, 4095},
	}
}

// around are numbers about a field's edges: such as may be, and such as may not.
func around(most int) (good, bad []int) {
	return []int{0, 1, most / 2, most - 1, most},
		[]int{-1, -2, -most, most + 1, most + 2, 2*most + 1, 1 << 32, 1<<32 + 1, -1 << 32, 1 << 40, math.MaxInt, math.MinInt, math.MinInt + 1}
}

// counter makes numbers from a number, the same ones each time.
type counter uint64

func (c *counter) next(below int) int {
	*c = *c*6364136223846793005 + 1442695040888963407
	return int(uint64(*c)>>31) % below
}

// upTo is often an edge, and never above most.
func (c *counter) upTo(most int) int {
	switch c.next(4) {
	case 0:
		return 0
	case 1:
		return most
	}
	return c.next(most + 1)
}

func (c *counter) packet() api.Packet {
	return api.Packet{Id: c.upTo(1<<32 - 1), Src: c.upTo(1<<32 - 1), Dst: c.upTo(1<<32 - 1), TTL: c.upTo(16), Tag: c.upTo(4095)}
}

func TestMayEdges(t *testing.T) { // P3.1
	base := []api.Packet{{}, {Id: 1, Src: 2, Dst: 3, TTL: 4, Tag: 5}, {Id: 1<<32 - 1, Src: 1<<32 - 1, Dst: 1<<32 - 1, TTL: 16, Tag: 4095}}
	for _, p := range base {
		if !May(p) {
			t.Errorf("May(%+v) = false", p)
		}
		for name, f := range fieldsOf(&p) {
			kept := *f.at
			good, bad := around(f.most)
			for _, *f.at = range good {
				if !May(p) {
					t.Errorf("%s: May(%+v) = false", name, p)
				}
			}
			for _, *f.at = range bad {
				if May(p) {
					t.Errorf("%s: May(%+v) = true", name, p)
				}
			}
			*f.at = kept
		}
	}
}

func TestPutExamples(t *testing.T) { // P3.2
	for _, x := range []struct {
		p    api.Packet
		want []byte
	}{
		{api.Packet{Id: 1, Src: 2, Dst: 3, TTL: 4, Tag: 5}, []byte{0, 0, 0, 1, 0, 0, 0, 2, 0, 0, 0, 3, 0, 4, 0, 5, 255, 240}},
		{api.Packet{}, []byte{0, 0, 0, 0, 0, 0, 0, 0, 0, 0, 0, 0, 0, 0, 0, 0, 255, 255}},
		{api.Packet{Id: 65535}, []byte{0, 0, 255, 255, 0, 0, 0, 0, 0, 0, 0, 0, 0, 0, 0, 0, 0, 0}}, // a checksum of 0
		{api.Packet{Src: 0x01020304}, []byte{0, 0, 0, 0, 1, 2, 3, 4, 0, 0, 0, 0, 0, 0, 0, 0, 251, 249}},
		{api.Packet{Id: 1<<32 - 1, Src: 1<<32 - 1, Dst: 1<<32 - 1, TTL: 16, Tag: 4095},
			[]byte{255, 255, 255, 255, 255, 255, 255, 255, 255, 255, 255, 255, 0, 16, 15, 255, 239, 240}},
	} {
		b, e := Put(x.p)
		if !bytes.Equal(b, x.want) || e != api.OK {
			t.Errorf("Put(%+v) = %v, %d; want %v", x.p, b, e, x.want)
		}
	}
}

func TestPutRefuses(t *testing.T) { // P3.2
	p := api.Packet{Id: 1, Src: 2, Dst: 3, TTL: 4, Tag: 5}
	for name, f := range fieldsOf(&p) {
		kept := *f.at
		_, bad := around(f.most)
		for _, *f.at = range bad {
			if b, e := Put(p); len(b) != 0 || e != api.ErrArg {
				t.Errorf("%s: Put(%+v) = %v, %d; want ErrArg and no bytes", name, p, b, e)
			}
		}
		*f.at = kept
	}
}

func TestPutAgainstModel(t *testing.T) { // P3.2
	c := counter(1)
	for range 5000 {
		p := c.packet()
		want, wantE := putModel(p)
		if b, e := Put(p); !bytes.Equal(b, want) || e != wantE {
			t.Errorf("Put(%+v) = %v, %d; want %v, %d", p, b, e, want, wantE)
		}
	}
}

func TestGetByLength(t *testing.T) { // P3.2
	for _, whole := range [][]byte{
		rawBytes(1, 2, 3, 4, 5), make([]byte, 18), // the second one's checksum is wrong
		rawBytes(1, 2, 3, 17, 5), // the third one may not be
	} {
		long := append(bytes.Clone(whole), make([]byte, 22)...)
		for n := range long {
			if n == 18 {
				continue
			}
			want := api.ErrMore
			if n > 18 {
				want = api.ErrForm
			}
			if p, e := Get(long[:n]); p != (api.Packet{}) || e != want {
				t.Errorf("Get of %d bytes = %+v, %d; want error %d and noughts", n, p, e, want)
			}
		}
	}
	if p, e := Get(nil); p != (api.Packet{}) || e != api.ErrMore {
		t.Errorf("Get(nil) = %+v, %d; want ErrMore", p, e)
	}
	if p, e := Get(append(rawBytes(1, 2, 3, 4, 5), rawBytes(1, 2, 3, 4, 5)...)); p != (api.Packet{}) || e != api.ErrForm {
		t.Errorf("Get of two packets = %+v, %d; want ErrForm", p, e)
	}
}

func TestGetWrongSums(t *testing.T) { // P3.2
	for _, whole := range [][]byte{rawBytes(1, 2, 3, 4, 5), rawBytes(1<<32-1, 0, 1<<31, 16, 4095), rawBytes(7, 8, 9, 17, 4096)} {
		for i := range whole {
			for _, by := range []byte{1, 16, 128, 200} {
				b := bytes.Clone(whole)
				b[i] += by
				if p, e := Get(b); p != (api.Packet{}) || e != api.ErrSum {
					t.Errorf("Get(%v) = %+v, %d; want ErrSum and noughts", b, p, e)
				}
			}
		}
	}
	if p, e := Get(make([]byte, 18)); p != (api.Packet{}) || e != api.ErrSum {
		t.Errorf("Get of 18 noughts = %+v, %d; want ErrSum", p, e)
	}
}

func TestGetWhatMayNotBe(t *testing.T) { // P3.2
	for _, x := range []struct {
		ttl, tag uint16
		e        api.Errno
	}{
		{0, 0, api.OK}, {16, 0, api.OK}, {0, 4095, api.OK}, {16, 4095, api.OK},
		{17, 0, api.ErrForm}, {17, 4095, api.ErrForm}, {32, 5, api.ErrForm}, {256, 5, api.ErrForm}, {32768, 5, api.ErrForm}, {65535, 5, api.ErrForm},
		{0, 4096, api.ErrForm}, {16, 4096, api.ErrForm}, {4, 8192, api.ErrForm}, {4, 32768, api.ErrForm}, {4, 65535, api.ErrForm}, {17, 4096, api.ErrForm}, {65535, 65535, api.ErrForm},
	} {
		want := api.Packet{}
		if x.e == api.OK {
			want = api.Packet{Id: 1, Src: 2, Dst: 3, TTL: int(x.ttl), Tag: int(x.tag)}
		}
		if p, e := Get(rawBytes(1, 2, 3, x.ttl, x.tag)); p != want || e != x.e {
			t.Errorf("Get of TTL %d, Tag %d = %+v, %d; want %+v, %d", x.ttl, x.tag, p, e, want, x.e)
		}
	}
}

// TestGetAgainstModel takes bytes of all lengths, whose checksums are often right.
func TestGetAgainstModel(t *testing.T) { // P3.2
	c := counter(2)
	seen := map[api.Errno]int{}
	for range 20000 {
		b := rawBytes(uint32(c.upTo(1<<32-1)), uint32(c.upTo(1<<32-1)), uint32(c.upTo(1<<32-1)), uint16(c.upTo(18)), uint16(c.upTo(4097)))
		switch c.next(4) {
		case 0:
			b[c.next(18)] = byte(c.next(256))
		case 1:
			b = append(b, make([]byte, 4)...)[:c.next(23)]
		}
		want, wantE := getModel(b)
		if p, e := Get(b); p != want || e != wantE {
			t.Errorf("Get(%v) = %+v, %d; want %+v, %d", b, p, e, want, wantE)
		}
		seen[wantE]++
	}
	for _, e := range []api.Errno{api.OK, api.ErrForm, api.ErrMore, api.ErrSum} {
		if seen[e] < 100 {
			t.Errorf("error %d was asked for only %d times", e, seen[e])
		}
	}
}

func TestPutIsGot(t *testing.T) { // P3.3
	c := counter(3)
	for range 5000 {
		p := c.packet()
		b, e := Put(p)
		if len(b) != 18 || e != api.OK {
			t.Fatalf("Put(%+v) = %v, %d", p, b, e)
		}
		if got, e := Get(b); got != p || e != api.OK {
			t.Errorf("%+v is got as %+v, %d", p, got, e)
		}
	}
}

func TestGotIsPut(t *testing.T) { // P3.3
	c := counter(4)
	for range 5000 {
		b := rawBytes(uint32(c.upTo(1<<32-1)), uint32(c.upTo(1<<32-1)), uint32(c.upTo(1<<32-1)), uint16(c.upTo(16)), uint16(c.upTo(4095)))
		p, e := Get(b)
		if e != api.OK {
			t.Fatalf("Get(%v) = %+v, %d", b, p, e)
		}
		if again, e := Put(p); !bytes.Equal(again, b) || e != api.OK {
			t.Errorf("%v is put as %v, %d", b, again, e)
		}
	}
}

func TestNoughtSumAsGreatest(t *testing.T) { // P3.3: a checksum of 0 may stand as 65535, one of 65535 never as 0
	for _, p := range []api.Packet{
		{Id: 65535}, {Src: 65535}, {Dst: 0xffff0000}, {Id: 65530, TTL: 5}, {Id: 1<<32 - 1, Src: 1<<32 - 1, Dst: 1<<32 - 1}, {Dst: 65535 - 4095 - 16, TTL: 16, Tag: 4095},
	} {
		b, e := Put(p)
		if e != api.OK || b[16] != 0 || b[17] != 0 {
			t.Fatalf("Put(%+v) = %v, %d; want a checksum of 0", p, b, e)
		}
		if got, e := Get(b); got != p || e != api.OK {
			t.Errorf("Get(%v) = %+v, %d; want %+v", b, got, e, p)
		}
		b[16], b[17] = 255, 255
		if got, e := Get(b); got != p || e != api.OK {
			t.Errorf("Get(%v) = %+v, %d; want %+v", b, got, e, p)
		}
	}
	b := rawBytes(0, 0, 0, 0, 0)
	if p, e := Get(b); p != (api.Packet{}) || e != api.OK {
		t.Errorf("Get(%v) = %+v, %d; want a packet of noughts", b, p, e)
	}
}

func TestArgumentsStay(t *testing.T) { // R3
	room := append(rawBytes(1, 2, 3, 4, 5), 6, 7, 8)
	kept := bytes.Clone(room)
	for n := range room {
		Get(room[:n])
		if !bytes.Equal(room, kept) {
			t.Fatalf("Get of %d bytes changed them, or what stands behind: %v", n, room)
		}
	}
}

func TestAnswersAreOwn(t *testing.T) { // R3, R5: what a caller writes into an answer is not to be seen in the next one
	p := api.Packet{Id: 1, Src: 2, Dst: 3, TTL: 4, Tag: 5}
	want := rawBytes(1, 2, 3, 4, 5)
	for range 3 {
		b, e := Put(p)
		if !bytes.Equal(b, want) || e != api.OK {
			t.Fatalf("Put(%+v) = %v, %d; it hangs on an earlier answer", p, b, e)
		}
		for i := range b {
			b[i] = 9
		}
		_ = append(b, 9)
		if got, e := Get(want); got != p || e != api.OK {
			t.Fatalf("Get(%v) = %+v, %d", want, got, e)
		}
	}
}
