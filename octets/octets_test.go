package octets

import (
	"bytes"
	"math"
	"math/big"
	"slices"
	"strconv"
	"strings"
	"testing"

	"wayfinder/api"
)

// The model that the calls are held against works on hexadecimal texts and on the rest by 65535, so that it shares no shift and no folding with them.

func putModel(n, width int) (string, api.Errno) {
	if width < 1 || width > 4 || n < 0 {
		return "", api.ErrArg
	}
	text := strconv.FormatInt(int64(n), 16)
	if len(text) > 2*width {
		return "", api.ErrArg
	}
	return strings.Repeat("0", 2*width-len(text)) + text, api.OK
}

func hexText(b []byte) string {
	const digits = "0123456789abcdef"
	var text strings.Builder
	for _, d := range b {
		text.WriteByte(digits[d/16])
		text.WriteByte(digits[d%16])
	}
	return text.String()
}

func getModel(t *testing.T, b []byte, width int) (int, api.Errno) {
	t.Helper()
	if width < 1 || width > 4 {
		return 0, api.ErrArg
	}
	text := hexText(b)
	if len(text) < 2*width {
		return 0, api.ErrMore
	}
	n, err := strconv.ParseInt(text[:2*width], 16, 64)
	if err != nil {
		t.Fatal(err)
	}
	return int(n), api.OK
}

// sumModel: folding keeps the rest by 65535, and a sum above 0 is never folded to 0.
func sumModel(b []byte) int {
	all := new(big.Int)
	for i, d := range b {
		n := int64(d)
		if i%2 == 0 {
			n *= 256
		}
		all.Add(all, big.NewInt(n))
	}
	if all.Sign() == 0 {
		return 65535
	}
	all.Sub(all, big.NewInt(1))
	return 65535 - 1 - int(all.Mod(all, big.NewInt(65535)).Int64())
}

// someNumbers are the edges of each width, numbers between, and such as no width holds.
func someNumbers() []int {
	l := []int{
		0, 1, 2, 127, 128, 254, 258, 0x0102, 0x010203, 0x01020304, 0xff00, 0xff0000, 0xff000000, 0xfefdfcfb, 1<<31 - 1, 1 << 31,
		1<<40 - 1, 1 << 40, 1 << 62, math.MaxInt - 1, math.MaxInt,
		-1, -2, -255, -256, -65536, -1 << 31, -1 << 32, -1<<32 + 1, math.MinInt + 1, math.MinInt,
	}
	edge := 1
	for range 4 {
		edge *= 256
		l = append(l, edge-1, edge, edge+1, -edge)
	}
	return l
}

func someWidths() []int {
	return []int{1, 2, 3, 4, 0, -1, -2, -4, 5, 6, 8, 9, 16, 64, 1 << 32, 1<<32 + 1, 1<<61 + 1, -1<<61 + 2, math.MinInt, math.MinInt + 1, math.MaxInt, math.MaxInt - 1}
}

// counter makes bytes from a number, the same ones each time.
type counter uint64

func (c *counter) next(below int) int {
	*c = *c*6364136223846793005 + 1442695040888963407
	return int(uint64(*c)>>33) % below
}

func (c *counter) bytes(n int) []byte {
	b := make([]byte, n)
	for i := range b {
		switch c.next(4) {
		case 0:
			b[i] = 255
		case 1:
			b[i] = 0
		default:
			b[i] = byte(c.next(256))
		}
	}
	return b
}

func TestPutExamples(t *testing.T) { // P2.1
	for _, x := range []struct {
		n, width int
		want     []byte
	}{
		{258, 3, []byte{0, 1, 2}},
		{0, 1, []byte{0}}, {255, 1, []byte{255}},
		{0, 2, []byte{0, 0}}, {256, 2, []byte{1, 0}}, {65535, 2, []byte{255, 255}},
		{65536, 3, []byte{1, 0, 0}}, {1<<24 - 1, 3, []byte{255, 255, 255}},
		{0, 4, []byte{0, 0, 0, 0}}, {1, 4, []byte{0, 0, 0, 1}}, {0x01020304, 4, []byte{1, 2, 3, 4}}, {1<<32 - 1, 4, []byte{255, 255, 255, 255}},
	} {
		b, e := Put(x.n, x.width)
		if !bytes.Equal(b, x.want) || e != api.OK {
			t.Errorf("Put(%d, %d) = %v, %d; want %v", x.n, x.width, b, e, x.want)
		}
	}
}

func TestPutRefuses(t *testing.T) { // P2.1
	for _, x := range []struct{ n, width int }{
		{256, 1}, {65536, 2}, {1 << 24, 3}, {1 << 32, 4}, {math.MaxInt, 4},
		{-1, 1}, {-1, 2}, {-1, 3}, {-1, 4}, {math.MinInt, 4}, {math.MinInt, 1},
		{0, 0}, {1, 0}, {0, -1}, {0, 5}, {1, 5}, {0, math.MinInt}, {0, math.MaxInt}, {0, 8}, {-1, 0}, {-1, 5},
	} {
		b, e := Put(x.n, x.width)
		if len(b) != 0 || e != api.ErrArg {
			t.Errorf("Put(%d, %d) = %v, %d; want ErrArg and no bytes", x.n, x.width, b, e)
		}
	}
}

func TestPutAgainstModel(t *testing.T) { // P2.1
	for _, n := range someNumbers() {
		for _, width := range someWidths() {
			want, wantE := putModel(n, width)
			b, e := Put(n, width)
			if hexText(b) != want || e != wantE {
				t.Errorf("Put(%d, %d) = %v, %d; want %q, %d", n, width, b, e, want, wantE)
			}
		}
	}
}

func TestGetExamples(t *testing.T) { // P2.1
	for _, x := range []struct {
		b     []byte
		width int
		want  int
		e     api.Errno
	}{
		{[]byte{0, 1, 2}, 3, 258, api.OK}, {[]byte{1, 2, 3}, 2, 258, api.OK}, {[]byte{1, 2, 3}, 1, 1, api.OK},
		{[]byte{255}, 1, 255, api.OK}, {[]byte{0}, 1, 0, api.OK}, {[]byte{255, 255, 255, 255}, 4, 1<<32 - 1, api.OK}, {[]byte{128, 0, 0, 0, 9}, 4, 1 << 31, api.OK},
		{nil, 1, 0, api.ErrMore}, {[]byte{}, 4, 0, api.ErrMore}, {[]byte{7}, 2, 0, api.ErrMore}, {[]byte{7, 7}, 3, 0, api.ErrMore}, {[]byte{7, 7, 7}, 4, 0, api.ErrMore},
		{nil, 0, 0, api.ErrArg}, {nil, 5, 0, api.ErrArg}, {nil, -1, 0, api.ErrArg}, {[]byte{1, 2, 3, 4, 5, 6}, 0, 0, api.ErrArg}, {[]byte{1, 2, 3, 4, 5, 6}, 5, 0, api.ErrArg},
		{[]byte{1, 2, 3, 4, 5, 6}, -1, 0, api.ErrArg}, {[]byte{1}, math.MinInt, 0, api.ErrArg}, {[]byte{1}, math.MaxInt, 0, api.ErrArg},
	} {
		n, e := Get(x.b, x.width)
		if n != x.want || e != x.e {
			t.Errorf("Get(%v, %d) = %d, %d; want %d, %d", x.b, x.width, n, e, x.want, x.e)
		}
	}
}

func TestGetAgainstModel(t *testing.T) { // P2.1
	c := counter(1)
	for length := range 8 {
		for range 20 {
			b := c.bytes(length)
			for _, width := range someWidths() {
				want, wantE := getModel(t, b, width)
				n, e := Get(b, width)
				if n != want || e != wantE {
					t.Errorf("Get(%v, %d) = %d, %d; want %d, %d", b, width, n, e, want, wantE)
				}
			}
		}
	}
}

func TestGetKeepsToLength(t *testing.T) { // P2.1: bytes behind a list's end are none of it
	b := []byte{1, 2, 3, 4}
	if n, e := Get(b[:1], 2); n != 0 || e != api.ErrMore {
		t.Errorf("Get of a short piece = %d, %d", n, e)
	}
	if l, n, e := GetAll(b[:3], []int{2, 2}); len(l) != 0 || n != 0 || e != api.ErrMore {
		t.Errorf("GetAll of a short piece = %v, %d, %d", l, n, e)
	}
}

func TestPutAllExamples(t *testing.T) { // P2.2
	for _, x := range []struct {
		l, widths []int
		want      []byte
		e         api.Errno
	}{
		{[]int{1, 2}, []int{1, 2}, []byte{1, 0, 2}, api.OK},
		{[]int{258, 255, 0, 1<<32 - 1}, []int{3, 1, 2, 4}, []byte{0, 1, 2, 255, 0, 0, 255, 255, 255, 255}, api.OK},
		{nil, nil, nil, api.OK}, {[]int{}, []int{}, nil, api.OK},
		{[]int{1}, nil, nil, api.ErrArg}, {nil, []int{1}, nil, api.ErrArg},
		{[]int{1, 2}, []int{1}, nil, api.ErrArg}, {[]int{1}, []int{1, 2}, nil, api.ErrArg},
		{[]int{256, 2}, []int{1, 2}, nil, api.ErrArg}, {[]int{1, 256, 3}, []int{1, 1, 1}, nil, api.ErrArg}, {[]int{1, 2, -1}, []int{1, 1, 1}, nil, api.ErrArg},
		{[]int{1, 2, 3}, []int{1, 0, 1}, nil, api.ErrArg}, {[]int{1, 2, 3}, []int{1, 5, 1}, nil, api.ErrArg}, {[]int{1, 2, 3}, []int{1, 1, -1}, nil, api.ErrArg},
	} {
		b, e := PutAll(x.l, x.widths)
		if !bytes.Equal(b, x.want) || e != x.e {
			t.Errorf("PutAll(%v, %v) = %v, %d; want %v, %d", x.l, x.widths, b, e, x.want, x.e)
		}
	}
}

func TestGetAllExamples(t *testing.T) { // P2.2
	six := []byte{1, 2, 3, 4, 5, 6}
	for _, x := range []struct {
		b      []byte
		widths []int
		want   []int
		n      int
		e      api.Errno
	}{
		{[]byte{1, 0, 2, 9}, []int{1, 2}, []int{1, 2}, 3, api.OK},
		{six, []int{1, 2, 3}, []int{1, 0x0203, 0x040506}, 6, api.OK},
		{six, []int{4, 2}, []int{0x01020304, 0x0506}, 6, api.OK},
		{six, []int{4}, []int{0x01020304}, 4, api.OK},
		{six, nil, nil, 0, api.OK}, {six, []int{}, nil, 0, api.OK}, {nil, nil, nil, 0, api.OK},
		{nil, []int{1}, nil, 0, api.ErrMore}, {six, []int{4, 3}, nil, 0, api.ErrMore}, {six, []int{1, 1, 1, 1, 1, 1, 1}, nil, 0, api.ErrMore},
		{six, []int{1, 0, 1}, nil, 0, api.ErrArg}, {six, []int{1, 5}, nil, 0, api.ErrArg}, {six, []int{-1, 1}, nil, 0, api.ErrArg}, {six, []int{2, -1, 1}, nil, 0, api.ErrArg},
		{six, []int{math.MaxInt}, nil, 0, api.ErrArg}, {six, []int{1, math.MinInt}, nil, 0, api.ErrArg}, {nil, []int{0}, nil, 0, api.ErrArg},
		// the first one of two errors
		{six, []int{4, 4, 0}, nil, 0, api.ErrMore}, {six, []int{4, 0, 4}, nil, 0, api.ErrArg}, {six, []int{4, 2, 1, 5}, nil, 0, api.ErrMore}, {six, []int{4, 2, 5, 1}, nil, 0, api.ErrArg},
	} {
		l, n, e := GetAll(x.b, x.widths)
		if !slices.Equal(l, x.want) || n != x.n || e != x.e {
			t.Errorf("GetAll(%v, %v) = %v, %d, %d; want %v, %d, %d", x.b, x.widths, l, n, e, x.want, x.n, x.e)
		}
	}
}

func TestAllAgainstOneByOne(t *testing.T) { // P2.2
	c := counter(2)
	for range 3000 {
		numbers, widths := someNumbers(), []int{1, 2, 3, 4, 1, 2, 3, 4, 4, 4, 0, 5}
		var l, ws []int
		for range c.next(5) {
			l = append(l, numbers[c.next(len(numbers))])
			ws = append(ws, widths[c.next(len(widths))])
		}
		checkPutAll(t, l, ws)
		checkGetAll(t, c.bytes(c.next(16)), ws)
	}
}

func checkPutAll(t *testing.T, l, widths []int) {
	t.Helper()
	want, wantE := "", api.OK
	for i := range l {
		text, e := putModel(l[i], widths[i])
		if e != api.OK {
			want, wantE = "", e
			break
		}
		want += text
	}
	b, e := PutAll(l, widths)
	if hexText(b) != want || e != wantE {
		t.Errorf("PutAll(%v, %v) = %v, %d; want %q, %d", l, widths, b, e, want, wantE)
	}
}

func checkGetAll(t *testing.T, b []byte, widths []int) {
	t.Helper()
	var want []int
	at, wantE := 0, api.OK
	for _, width := range widths {
		n, e := getModel(t, b[at:], width)
		if e != api.OK {
			want, at, wantE = nil, 0, e
			break
		}
		want, at = append(want, n), at+width
	}
	l, n, e := GetAll(b, widths)
	if !slices.Equal(l, want) || n != at || e != wantE {
		t.Errorf("GetAll(%v, %v) = %v, %d, %d; want %v, %d, %d", b, widths, l, n, e, want, at, wantE)
	}
}

func TestSumExamples(t *testing.T) { // P2.3
	// 65538 times 65535, and 1, come to 2^32 + 65535: three foldings, by 131071 and 65536 to 1.
	thrice := append(bytes.Repeat([]byte{255}, 2*65538), 0, 1)
	for _, x := range []struct {
		b    []byte
		want int
	}{
		{nil, 65535}, {[]byte{}, 65535}, {[]byte{0}, 65535}, {[]byte{0, 0, 0}, 65535},
		{[]byte{1, 2}, 65277}, {[]byte{1}, 65279}, {[]byte{1, 2, 1}, 65021}, {[]byte{0, 1}, 65534}, {[]byte{255}, 255},
		{[]byte{1, 2, 254, 253}, 0}, {[]byte{255, 255}, 0}, {[]byte{255, 254, 0, 1}, 0}, // 65535 is not folded
		{[]byte{255, 255, 0, 1}, 65534}, {[]byte{255, 255, 1}, 65279}, {[]byte{255, 255, 255, 255}, 0}, // above it
		{[]byte{255, 255, 255, 255, 0, 1}, 65534}, {[]byte{255, 255, 255, 255, 0, 2}, 65533}, // 131071 is folded twice
		{thrice, 65534},
	} {
		if n := Sum(x.b); n != x.want {
			t.Errorf("Sum of %d bytes %v = %d; want %d", len(x.b), x.b[:min(len(x.b), 8)], n, x.want)
		}
	}
}

func TestSumAgainstModel(t *testing.T) { // P2.3
	c := counter(3)
	for length := range 300 {
		b := c.bytes(length)
		if n, want := Sum(b), sumModel(b); n != want {
			t.Errorf("Sum(%v) = %d; want %d", b, n, want)
		}
	}
	for _, length := range []int{131071, 131072, 131073, 1 << 20, 1<<20 + 1} {
		for _, b := range [][]byte{bytes.Repeat([]byte{255}, length), make([]byte, length), c.bytes(length)} {
			if n, want := Sum(b), sumModel(b); n != want {
				t.Errorf("Sum of %d bytes from %d on = %d; want %d", length, b[0], n, want)
			}
		}
	}
}

func TestPutIsGot(t *testing.T) { // P2.4
	for _, n := range someNumbers() {
		for width := 1; width <= 4; width++ {
			b, e := Put(n, width)
			if e != api.OK {
				continue
			}
			if got, e := Get(b, width); got != n || e != api.OK {
				t.Errorf("%d in %d bytes is got as %d, %d", n, width, got, e)
			}
		}
	}
}

func TestPutAllIsGotAll(t *testing.T) { // P2.4
	c := counter(4)
	for range 2000 {
		var l, widths []int
		size := 0
		for range c.next(9) {
			width := 1 + c.next(4)
			n, _ := getModel(t, c.bytes(4), width)
			l, widths, size = append(l, n), append(widths, width), size+width
		}
		b, e := PutAll(l, widths)
		if len(b) != size || e != api.OK {
			t.Fatalf("PutAll(%v, %v) = %v, %d", l, widths, b, e)
		}
		got, n, e := GetAll(append(b, c.bytes(c.next(4))...), widths)
		if !slices.Equal(got, l) || n != size || e != api.OK {
			t.Errorf("%v in %v bytes is got as %v, %d, %d", l, widths, got, n, e)
		}
	}
}

func TestSumBehindIsNought(t *testing.T) { // P2.4
	c := counter(5)
	for length := 0; length < 200; length += 2 {
		for range 10 {
			b := c.bytes(length)
			behind, e := Put(Sum(b), 2)
			if e != api.OK {
				t.Fatalf("Sum(%v) = %d goes not into two bytes", b, Sum(b))
			}
			if n := Sum(append(b, behind...)); n != 0 {
				t.Errorf("Sum of %v with %v behind = %d", b, behind, n)
			}
		}
	}
}

func TestArgumentsStay(t *testing.T) { // R3
	b, l, widths := []byte{1, 2, 3, 4, 5}, []int{1, 2, 3}, []int{1, 2, 1}
	Get(b, 3)
	Sum(b)
	PutAll(l, widths)
	GetAll(b, widths)
	if !bytes.Equal(b, []byte{1, 2, 3, 4, 5}) || !slices.Equal(l, []int{1, 2, 3}) || !slices.Equal(widths, []int{1, 2, 1}) {
		t.Error("an argument was changed:", b, l, widths)
	}
}

func TestAnswersAreOwn(t *testing.T) { // R3: what a caller writes into an answer is not to be seen in the next one, nor in an argument
	b, l, widths := []byte{1, 2, 3}, []int{1, 2, 3}, []int{1, 1, 1}
	for range 2 {
		one, _ := Put(258, 3)
		many, _ := PutAll(l, widths)
		got, _, _ := GetAll(b, widths)
		if !bytes.Equal(one, []byte{0, 1, 2}) || !bytes.Equal(many, []byte{1, 2, 3}) || !slices.Equal(got, []int{1, 2, 3}) {
			t.Fatal("an answer hangs on an earlier one:", one, many, got)
		}
		one[0], many[0], got[0] = 9, 9, 9
		_ = append(many, 9)
	}
	if !bytes.Equal(b, []byte{1, 2, 3}) || !slices.Equal(l, []int{1, 2, 3}) || !slices.Equal(widths, []int{1, 1, 1}) {
		t.Error("an answer shares memory with an argument:", b, l, widths)
	}
}
