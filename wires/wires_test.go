package wires

import (
	"fmt"
	"math"
	"slices"
	"strings"
	"testing"

	"wayfinder/api"
)

// The model that the calls are held against knows a wire as a text, and what is on its way as texts; it takes one out by going through all, and leaving out the one whose turn it is.

func text(w api.Wire) string { return fmt.Sprint(w.Switch, w.Up, len(w.B), w.B) }

const noughts = "0 false 0 []"

func texts(l []api.Wire) []string {
	var all []string
	for _, w := range l {
		all = append(all, text(w))
	}
	return all
}

func sendModel(l []string, w string) ([]string, bool) {
	for i := range l {
		if i+1 == 60 {
			return l, false
		}
	}
	return strings.Split(strings.Join(append([]string{"-"}, append(slices.Clone(l), w)...), "\n"), "\n")[1:], true
}

func fateModel(l []string, at, fate int) (left []string, w string, comes bool) {
	w = noughts
	for i, x := range l {
		turn := i == at
		stays := !turn || fate != 0 && fate != 1
		if stays {
			left = append(left, x)
		}
		if turn && (fate == 0 || fate == 2) {
			w, comes = x, true
		}
	}
	return left, w, comes
}

func wire(sw int, b ...byte) api.Wire { return api.Wire{Switch: sw, B: b} }

func up(sw int, b ...byte) api.Wire { return api.Wire{Switch: sw, Up: true, B: b} }

// many is so many, each of a switch of its own number, and with that number as its bytes.
func many(n int) []api.Wire {
	l := []api.Wire{}
	for i := range n {
		l = append(l, api.Wire{Switch: i, Up: i%2 == 1, B: []byte{byte(i >> 8), byte(i)}})
	}
	return l
}

// long is so many bytes.
func long(n int) []byte {
	b := make([]byte, n)
	for i := range b {
		b[i] = byte(i*7 + 1)
	}
	return b
}

func cloned(l []api.Wire) []api.Wire {
	c := slices.Clone(l)
	for i, w := range c {
		c[i].B = slices.Clone(w.B)
	}
	return c
}

// ends are numbers that are next to none of a list, and none of the fates.
func ends() []int {
	return []int{math.MinInt, math.MinInt + 1, math.MinInt32, -1 << 16, -61, -60, -3, -2, -1, 61, 62, 1000, 1 << 16, math.MaxInt32, math.MaxInt32 + 1, 1 << 32, math.MaxInt - 1, math.MaxInt}
}

// counter is numbers without any order that is to be seen, the same ones each time.
type counter uint64

func (c *counter) next(below int) int {
	*c = *c*6364136223846793005 + 1442695040888963407
	return int(uint64(*c)>>31) % below
}

func (c *counter) one(l ...int) int { return l[c.next(len(l))] }

func (c *counter) wire() api.Wire {
	w := api.Wire{Switch: c.one(0, 1, 2, 5, 6, -1, math.MinInt, math.MaxInt), Up: c.next(2) == 1}
	for range c.one(0, 0, 1, 2, 9, 40) {
		w.B = append(w.B, byte(c.next(256)))
	}
	return w
}

func (c *counter) wires(n int) []api.Wire {
	var l []api.Wire
	for range n {
		l = append(l, c.wire())
	}
	return l
}

// P14.1: Send

func TestSend(t *testing.T) {
	for name, x := range map[string]struct {
		l    []api.Wire
		w    api.Wire
		left []api.Wire
	}{
		"nil":              {nil, wire(3, 1, 2), []api.Wire{wire(3, 1, 2)}},
		"empty":            {[]api.Wire{}, up(3, 1, 2), []api.Wire{up(3, 1, 2)}},
		"one":              {[]api.Wire{wire(1, 9)}, wire(0, 8), []api.Wire{wire(1, 9), wire(0, 8)}},
		"several":          {[]api.Wire{wire(5), up(2, 1), wire(2, 1)}, up(0, 7, 7), []api.Wire{wire(5), up(2, 1), wire(2, 1), up(0, 7, 7)}},
		"the same":         {[]api.Wire{up(1, 9), up(1, 9)}, up(1, 9), []api.Wire{up(1, 9), up(1, 9), up(1, 9)}},
		"noughts":          {[]api.Wire{wire(1, 9)}, api.Wire{}, []api.Wire{wire(1, 9), {}}},
		"behind noughts":   {[]api.Wire{{}, {}}, wire(1, 9), []api.Wire{{}, {}, wire(1, 9)}},
		"no bytes":         {nil, api.Wire{Switch: 4, Up: true, B: []byte{}}, []api.Wire{up(4)}},
		"bytes of noughts": {nil, wire(0, 0, 0, 0), []api.Wire{wire(0, 0, 0, 0)}},
		"many bytes":       {[]api.Wire{wire(1, 9)}, wire(2, long(70000)...), []api.Wire{wire(1, 9), wire(2, long(70000)...)}},
		"below 0":          {nil, up(math.MinInt, 1), []api.Wire{up(math.MinInt, 1)}},
		"no such switch":   {nil, wire(math.MaxInt, 255), []api.Wire{wire(math.MaxInt, 255)}},
	} {
		left, is := Send(x.l, x.w)
		if !slices.Equal(texts(left), texts(x.left)) || !is {
			t.Error(name, left, is)
		}
		model, room := sendModel(texts(x.l), text(x.w))
		if !slices.Equal(model, texts(x.left)) || !room {
			t.Error(name, "the model:", model, room)
		}
	}
}

func TestSendRoom(t *testing.T) {
	for n, room := range map[int]bool{0: true, 1: true, 58: true, 59: true, 60: false, 61: false, 62: false, 119: false, 120: false, 5000: false} {
		l := many(n)
		left, is := Send(l, up(77, 7))
		want := many(n)
		if room {
			want = append(want, up(77, 7))
		}
		if is != room || !slices.Equal(texts(left), texts(want)) {
			t.Error(n, is, len(left))
		}
		model, room := sendModel(texts(l), text(up(77, 7)))
		if is != room || !slices.Equal(texts(left), model) {
			t.Error(n, "the model:", room, len(model))
		}
	}
}

func TestSendFills(t *testing.T) { // from nothing on: 60, and not one more
	var l []api.Wire
	for i := range 70 {
		left, is := Send(l, many(70)[i])
		if is != (i < 60) || !slices.Equal(texts(left), texts(many(70)[:min(i+1, 60)])) {
			t.Fatal(i, is, left)
		}
		l = left
	}
	l, _, _ = Fate(l, 59, api.Lose)
	l, is := Send(l, wire(99))
	if !is || len(l) != 60 || text(l[59]) != text(wire(99)) {
		t.Error("no room for one that is gone:", is, len(l))
	}
}

func TestSendAgainstModel(t *testing.T) {
	c := counter(1)
	var kinds [2]int
	for range 3000 {
		l, w := c.wires(c.one(0, 1, 2, 3, 10, 57, 58, 59, 60, 61, 62, 90)), c.wire()
		left, is := Send(l, w)
		model, room := sendModel(texts(l), text(w))
		if is != room || !slices.Equal(texts(left), model) {
			t.Fatal(len(l), w, is, len(left))
		}
		if is {
			kinds[0]++
		} else {
			kinds[1]++
		}
	}
	if kinds[0] < 500 || kinds[1] < 500 {
		t.Error(kinds)
	}
}

// P14.2: Fate

func TestFateExample(t *testing.T) { // the chapter's example
	l, w, comes := Fate([]api.Wire{wire(0, 7), up(1, 8)}, 1, api.Deliver)
	if len(l) != 1 || text(l[0]) != text(wire(0, 7)) || text(w) != text(up(1, 8)) || !comes {
		t.Error(l, w, comes)
	}
}

func TestFate(t *testing.T) {
	a, b, c, d := wire(0, 1), up(1, 2, 3), wire(2), up(0, 4)
	all := []api.Wire{a, b, c, d}
	for _, x := range []struct {
		l        []api.Wire
		at, fate int
		left     []api.Wire
		w        api.Wire
		comes    bool
	}{
		{all, 0, 0, []api.Wire{b, c, d}, a, true},
		{all, 1, 0, []api.Wire{a, c, d}, b, true},
		{all, 2, 0, []api.Wire{a, b, d}, c, true},
		{all, 3, 0, []api.Wire{a, b, c}, d, true},
		{all, 0, 1, []api.Wire{b, c, d}, api.Wire{}, false},
		{all, 1, 1, []api.Wire{a, c, d}, api.Wire{}, false},
		{all, 2, 1, []api.Wire{a, b, d}, api.Wire{}, false},
		{all, 3, 1, []api.Wire{a, b, c}, api.Wire{}, false},
		{all, 0, 2, all, a, true},
		{all, 1, 2, all, b, true},
		{all, 2, 2, all, c, true},
		{all, 3, 2, all, d, true},
		{all[:1], 0, 0, nil, a, true},
		{all[:1], 0, 1, nil, api.Wire{}, false},
		{all[:1], 0, 2, all[:1], a, true},
		{all[1:3], 0, 0, all[2:3], b, true},
		{all[1:3], 1, 1, all[1:2], api.Wire{}, false},
		{all[1:3], 1, 2, all[1:3], c, true},

		{all, -1, 0, all, api.Wire{}, false},
		{all, 4, 0, all, api.Wire{}, false},
		{all, 5, 0, all, api.Wire{}, false},
		{all, -1, 1, all, api.Wire{}, false},
		{all, 4, 1, all, api.Wire{}, false},
		{all, -1, 2, all, api.Wire{}, false},
		{all, 4, 2, all, api.Wire{}, false},
		{all, 0, 3, all, api.Wire{}, false},
		{all, 3, 3, all, api.Wire{}, false},
		{all, 0, -1, all, api.Wire{}, false},
		{all, 3, -1, all, api.Wire{}, false},
		{all, -1, 3, all, api.Wire{}, false},
		{all, 4, -1, all, api.Wire{}, false},
		{nil, 0, 0, nil, api.Wire{}, false},
		{nil, 0, 1, nil, api.Wire{}, false},
		{nil, 0, 2, nil, api.Wire{}, false},
		{nil, -1, 0, nil, api.Wire{}, false},
		{[]api.Wire{}, 0, 0, nil, api.Wire{}, false},
		{[]api.Wire{}, 0, 1, nil, api.Wire{}, false},
		{[]api.Wire{}, 0, 2, nil, api.Wire{}, false},
		{[]api.Wire{}, -1, 2, nil, api.Wire{}, false},
		{all[:0], 0, 0, nil, api.Wire{}, false}, // what stands behind its end is not on it
		{all[:2], 2, 0, all[:2], api.Wire{}, false},
		{all[:2], 2, 2, all[:2], api.Wire{}, false},
	} {
		left, w, comes := Fate(x.l, x.at, x.fate)
		if !slices.Equal(texts(left), texts(x.left)) || text(w) != text(x.w) || comes != x.comes {
			t.Error(len(x.l), x.at, x.fate, left, w, comes)
		}
		model, one, is := fateModel(texts(x.l), x.at, x.fate)
		if !slices.Equal(model, texts(x.left)) || one != text(x.w) || is != x.comes {
			t.Error(len(x.l), x.at, x.fate, "the model:", model, one, is)
		}
	}
}

func TestFatesNumbers(t *testing.T) { // 0, 1 and 2, and no more
	if api.Deliver != 0 || api.Lose != 1 || api.Twice != 2 || api.Fates != 3 || api.MaxWires != 60 {
		t.Error("others")
	}
}

// held holds one call of Fate against the model.
func held(t *testing.T, l []api.Wire, at, fate int) (string, bool) {
	t.Helper()
	left, w, comes := Fate(l, at, fate)
	model, one, is := fateModel(texts(l), at, fate)
	if !slices.Equal(texts(left), model) || text(w) != one || comes != is {
		t.Fatal(len(l), at, fate, len(left), w, comes)
	}
	if !comes && (w.B != nil || w.Switch != 0 || w.Up) {
		t.Fatal(len(l), at, fate, "no noughts:", w)
	}
	return text(w), comes
}

func TestFateAtEachPlace(t *testing.T) {
	for _, n := range []int{0, 1, 2, 3, 59, 60, 61, 62, 300} {
		l := many(n)
		for at := -2; at < n+3; at++ {
			for fate := -2; fate < 6; fate++ {
				w, comes := held(t, l, at, fate)
				is := at >= 0 && at < n && (fate == 0 || fate == 2)
				if comes != is || is && w != text(many(n)[at]) {
					t.Fatal(n, at, fate, w, comes)
				}
			}
		}
	}
}

func TestFateAtNoPlace(t *testing.T) {
	for _, n := range []int{0, 1, 59, 60, 61} {
		for _, at := range ends() {
			for _, fate := range append(ends(), 0, 1, 2, 3) {
				left, w, comes := Fate(many(n), at, fate)
				if !slices.Equal(texts(left), texts(many(n))) || text(w) != noughts || comes {
					t.Fatal(n, at, fate, len(left), w, comes)
				}
			}
		}
	}
}

func TestNoFate(t *testing.T) {
	for _, fate := range append(ends(), 3, 4, 5, 6, 7, 256, 257, 258, 1<<32+1, 1<<32+2) {
		for at := range 5 {
			left, w, comes := Fate(many(5), at, fate)
			if !slices.Equal(texts(left), texts(many(5))) || text(w) != noughts || comes {
				t.Fatal(at, fate, left, w, comes)
			}
		}
	}
}

func TestFateOfTheSame(t *testing.T) { // of several that are the same the one of that number goes, and one alone
	a, b := up(1, 9, 9), wire(1, 9)
	for _, x := range []struct {
		at, fate int
		left     []api.Wire
	}{
		{0, 0, []api.Wire{b, a, b, a}}, {1, 0, []api.Wire{a, a, b, a}}, {2, 0, []api.Wire{a, b, b, a}}, {3, 0, []api.Wire{a, b, a, a}}, {4, 0, []api.Wire{a, b, a, b}},
		{0, 1, []api.Wire{b, a, b, a}}, {1, 1, []api.Wire{a, a, b, a}}, {2, 1, []api.Wire{a, b, b, a}}, {3, 1, []api.Wire{a, b, a, a}}, {4, 1, []api.Wire{a, b, a, b}},
		{2, 2, []api.Wire{a, b, a, b, a}},
	} {
		left, _, _ := Fate([]api.Wire{a, b, a, b, a}, x.at, x.fate)
		if !slices.Equal(texts(left), texts(x.left)) {
			t.Error(x.at, x.fate, left)
		}
	}
	left, w, comes := Fate([]api.Wire{a, a}, 0, api.Deliver)
	if !slices.Equal(texts(left), []string{text(a)}) || text(w) != text(a) || !comes {
		t.Error("two the same:", left, w, comes)
	}
}

func TestFateOfBytes(t *testing.T) {
	for _, b := range [][]byte{nil, {}, {0}, {255}, {0, 0}, long(18), long(255), long(256), long(70000)} {
		l := []api.Wire{wire(1, 5), {Switch: 3, Up: true, B: b}, wire(2, 6)}
		for fate := range 3 {
			for at := range l {
				held(t, l, at, fate)
			}
		}
		if _, w, _ := Fate(l, 1, api.Deliver); !slices.Equal(w.B, b) || w.Switch != 3 || !w.Up {
			t.Error(len(b), "delivered", w)
		}
		if left, _, _ := Fate(l, 0, api.Lose); !slices.Equal(left[0].B, b) {
			t.Error(len(b), "left", left)
		}
	}
}

func TestFateAgainstModel(t *testing.T) {
	c := counter(2)
	var kinds [4]int
	for range 5000 {
		l := c.wires(c.one(0, 1, 2, 3, 8, 59, 60, 61, 80))
		at := c.next(len(l)+4) - 2
		fate := c.one(0, 0, 1, 1, 2, 2, 3, -1, math.MaxInt, math.MinInt)
		_, comes := held(t, l, at, fate)
		switch {
		case comes:
			kinds[fate]++
		case fate == 1 && at >= 0 && at < len(l):
			kinds[1]++
		default:
			kinds[3]++
		}
	}
	if slices.Min(kinds[:]) < 400 {
		t.Error(kinds)
	}
}

// P14.3

// numbers are how many there are of each text.
func numbers(l []string) map[string]int {
	n := map[string]int{}
	for _, x := range l {
		n[x]++
	}
	return n
}

func TestNothingComesThatWasNotSent(t *testing.T) { // and what is lost is one: all through sends and fates, what was sent is told apart by a number in its bytes
	c := counter(3)
	var refused, twice, lost int
	for range 60 {
		var l []api.Wire
		sent, gone := map[string]int{}, map[string]int{}
		for n := range 400 {
			if c.next(2) == 0 {
				w := api.Wire{Switch: c.next(6), Up: c.next(2) == 1, B: []byte{byte(n >> 8), byte(n)}}
				left, is := Send(l, w)
				if is {
					sent[text(w)] = 1
				} else {
					refused++
				}
				l = left
				continue
			}
			ahead := texts(l)
			at, fate := c.next(len(l)+3)-1, c.one(0, 1, 2, 2, 2, 3)
			left, w, comes := Fate(l, at, fate)
			if comes && (sent[text(w)] == 0 || gone[text(w)] > 0) {
				t.Fatal("came, and was not on its way:", w)
			}
			switch {
			case len(left) == len(ahead):
				if comes {
					twice++
				}
			case len(left) == len(ahead)-1:
				lost++
				gone[ahead[at]]++
			default:
				t.Fatal("more than one is gone:", at, fate, len(ahead), len(left))
			}
			l = left
		}
		for x, n := range numbers(texts(l)) {
			if n != 1 || sent[x] != 1 || gone[x] != 0 {
				t.Fatal("on its way, and was not sent, or is gone:", x, n)
			}
		}
		if len(l)+len(gone) != len(sent) {
			t.Fatal(len(l), len(gone), len(sent))
		}
	}
	if refused < 20 || twice < 500 || lost < 500 {
		t.Error(refused, twice, lost)
	}
}

func TestWhatIsLostIsOne(t *testing.T) {
	c := counter(4)
	for range 300 {
		l := c.wires(1 + c.next(30))
		at := c.next(len(l))
		ahead := numbers(texts(l))
		left, _, comes := Fate(l, at, api.Lose)
		ahead[text(l[at])]--
		for x, n := range numbers(texts(left)) {
			if ahead[x] != n {
				t.Fatal(x, n)
			}
		}
		if comes || len(left) != len(l)-1 {
			t.Fatal(len(l), len(left), comes)
		}
	}
}

func TestTwiceComesTwice(t *testing.T) { // and again, until it is delivered or lost
	l, _ := Send(many(3), up(9, 9))
	for range 5 {
		left, w, comes := Fate(l, 3, api.Twice)
		if text(w) != text(up(9, 9)) || !comes || len(left) != 4 {
			t.Fatal(left, w, comes)
		}
		l = left
	}
	l, w, comes := Fate(l, 3, api.Deliver)
	if text(w) != text(up(9, 9)) || !comes || !slices.Equal(texts(l), texts(many(3))) {
		t.Error(l, w, comes)
	}
	if left, w, comes := Fate(l, 3, api.Twice); len(left) != 3 || text(w) != noughts || comes {
		t.Error("once more:", left, w, comes)
	}
}

// P1, R1, R3, R5

func TestMuch(t *testing.T) { // far more than may be on its way: both calls end
	l := many(20000)
	l[10000].B = long(1 << 17)
	if left, is := Send(l, wire(0)); is || len(left) != len(l) {
		t.Error("sent")
	}
	for fate := -1; fate < 4; fate++ {
		for _, at := range []int{-1, 0, 10000, 19999, 20000} {
			held(t, l, at, fate)
		}
	}
}

const behind = 4 // how much there is behind a list's end, and behind that of bytes

// roomy is so many, with room behind the list and behind all bytes; and all of its memory, to be looked at later.
func roomy(n int) (l, all []api.Wire) {
	all = many(n + behind)
	for i := range all {
		b := append(all[i].B, 201, 202, 203, 204)
		all[i].B = b[:len(b)-behind]
	}
	return all[:n], all
}

// memory is all there is in a list's wires, to the ends of what their bytes have room for.
func memory(all []api.Wire) []string {
	var m []string
	for _, w := range all {
		m = append(m, fmt.Sprint(text(w), w.B[:cap(w.B)]))
	}
	return m
}

// calls are all that answer a list, at each kind of place and of fate.
func calls() map[string]func([]api.Wire) ([]api.Wire, api.Wire) {
	m := map[string]func([]api.Wire) ([]api.Wire, api.Wire){
		"Send": func(l []api.Wire) ([]api.Wire, api.Wire) {
			left, _ := Send(l, up(50, 1, 2, 3))
			return left, api.Wire{}
		},
	}
	for _, fate := range []int{-1, 0, 1, 2, 3} {
		for name, at := range map[string]func(int) int{
			"below":  func(int) int { return -1 },
			"first":  func(int) int { return 0 },
			"middle": func(n int) int { return n / 2 },
			"last":   func(n int) int { return n - 1 },
			"behind": func(n int) int { return n },
		} {
			m[fmt.Sprint("Fate ", fate, " ", name)] = func(l []api.Wire) ([]api.Wire, api.Wire) {
				left, w, _ := Fate(l, at(len(l)), fate)
				return left, w
			}
		}
	}
	return m
}

// spoil changes all of a list, and all that it has room for.
func spoil(l []api.Wire) {
	for _, w := range l {
		spoilBytes(w.B)
	}
	l = l[:cap(l)]
	for i := range l {
		l[i] = wire(-7, 77, 78)
	}
}

func spoilBytes(b []byte) {
	b = b[:cap(b)]
	for i := range b {
		b[i] ^= 255
	}
}

func TestWhatIsHandedInStays(t *testing.T) { // also behind its end, and when what was answered is changed
	for name, call := range calls() {
		for _, n := range []int{0, 1, 2, 3, 7, 59, 60, 61} {
			l, all := roomy(n)
			ahead := memory(all)
			left, w := call(l)
			if !slices.Equal(memory(all), ahead) {
				t.Fatal(name, n, "changed by the call")
			}
			spoil(left)
			spoilBytes(w.B)
			if !slices.Equal(memory(all), ahead) {
				t.Fatal(name, n, "changed by what was answered")
			}
		}
	}
}

func TestWhatIsSentStays(t *testing.T) {
	for _, n := range []int{0, 3, 59, 60} {
		b := long(10)
		w := api.Wire{Switch: 1, B: b[:4]}
		left, _ := Send(many(n), w)
		spoil(left)
		if !slices.Equal(b, long(10)) {
			t.Error(n, "changed by what was answered:", b)
		}
		left, is := Send(many(n), w)
		spoilBytes(b)
		if is && text(left[n]) != text(api.Wire{Switch: 1, B: long(10)[:4]}) {
			t.Error(n, "changed by what was handed in:", left[n])
		}
	}
}

func TestWhatIsAnsweredIsOwn(t *testing.T) { // later changes of what was handed in change nothing of it
	for name, call := range calls() {
		for _, n := range []int{0, 1, 2, 3, 7, 59, 60, 61} {
			l, all := roomy(n)
			left, w := call(l)
			keep, one := cloned(left), text(w)
			spoil(all)
			if !slices.Equal(texts(left), texts(keep)) || text(w) != one {
				t.Fatal(name, n, left, w)
			}
		}
	}
}

func TestWhatIsAnsweredSharesNothing(t *testing.T) { // none of the lists of one answer, also when those handed in share their bytes
	for name, call := range calls() {
		for _, n := range []int{1, 2, 3, 59, 60, 61} {
			b := long(8)
			l := make([]api.Wire, n)
			for i := range l {
				l[i] = api.Wire{Switch: i, B: b[:3]}
			}
			left, w := call(l)
			want, one := cloned(left), slices.Clone(w.B)
			for i := range left {
				spoilBytes(left[i].B)
				want[i].B = nil
				if !slices.Equal(w.B, one) {
					t.Fatal(name, n, i, "the one that comes shares its bytes")
				}
				for j := i + 1; j < len(left); j++ {
					if text(left[j]) != text(want[j]) {
						t.Fatal(name, n, i, j, "share their bytes")
					}
				}
			}
		}
	}
}

func TestSentTwiceSharesNothing(t *testing.T) { // the same bytes, handed in again
	b := long(4)
	l, _ := Send(nil, api.Wire{B: b})
	l, _ = Send(l, api.Wire{B: b})
	spoilBytes(l[0].B)
	if !slices.Equal(l[1].B, long(4)) || !slices.Equal(b, long(4)) {
		t.Error(l, b)
	}
}

func TestNoCapacityIsSeen(t *testing.T) { // the same with and without room behind what is handed in
	for name, call := range calls() {
		for _, n := range []int{0, 1, 2, 3, 59, 60, 61} {
			l, _ := roomy(n)
			left, w := call(l)
			bare, one := call(cloned(many(n))[:n:n])
			if !slices.Equal(texts(left), texts(bare)) || text(w) != text(one) {
				t.Error(name, n, left, w)
			}
		}
	}
}

func TestAskedInAnyOrder(t *testing.T) { // no answer hangs on what was asked before
	c := counter(5)
	type ask struct {
		l        []api.Wire
		at, fate int
	}
	var asks []ask
	var told []string
	tell := func(a ask) string {
		sent, is := Send(a.l, wire(a.at, 3))
		left, w, comes := Fate(a.l, a.at, a.fate)
		return fmt.Sprint(texts(sent), is, texts(left), text(w), comes)
	}
	for range 200 {
		l := c.wires(c.one(0, 1, 2, 5, 59, 60, 61))
		a := ask{l, c.next(len(l)+2) - 1, c.next(4)}
		asks, told = append(asks, a), append(told, tell(a))
	}
	for n := range 600 {
		i := c.next(len(asks))
		if tell(asks[i]) != told[i] {
			t.Fatal(n, i)
		}
	}
}
