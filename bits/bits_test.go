package bits

import (
	"math"
	"strconv"
	"strings"
	"testing"

	"wayfinder/api"
)

// The model that the calls are held against works on texts of 32 digits, so that it shares no shift or conversion with them.

const span = api.MaxAddr + 1

func digits(addr int) string {
	rest := addr % span
	if rest < 0 {
		rest += span
	}
	text := strconv.FormatInt(int64(rest), 2)
	return strings.Repeat("0", 32-len(text)) + text
}

func number(t *testing.T, text string) int {
	t.Helper()
	n, err := strconv.ParseInt(text, 2, 64)
	if err != nil || len(text) != 32 {
		t.Fatalf("%q is no address: %v", text, err)
	}
	return int(n)
}

func bounded(n int) int {
	if n < 0 {
		return 0
	}
	if n > 32 {
		return 32
	}
	return n
}

func mayModel(p api.Prefix) bool {
	return p.Len >= 0 && p.Len <= 32 && p.Addr >= 0 && p.Addr <= api.MaxAddr && !strings.Contains(digits(p.Addr)[p.Len:], "1")
}

func hasModel(p api.Prefix, addr int) bool {
	return mayModel(p) && strings.HasPrefix(digits(addr), digits(p.Addr)[:p.Len])
}

func withinModel(p, q api.Prefix) bool {
	return mayModel(p) && mayModel(q) && q.Len >= p.Len && hasModel(p, q.Addr)
}

// first and last are the ends of the addresses that a prefix which may be has.
func first(p api.Prefix) int { return p.Addr }

func last(p api.Prefix) int {
	n := 1
	for range 32 - p.Len {
		n *= 2
	}
	return p.Addr + n - 1
}

// someNumbers are addresses, their edges, and numbers that are none.
func someNumbers() []int {
	return []int{
		0, 1, 2, 3, 6, 7, 167772160, 167838211, 11 << 24, 9<<24 | 1<<23, 1<<31 - 1, 1 << 31, 1<<31 + 1, 3 << 30,
		api.MaxAddr - 1, api.MaxAddr, 0x55555555, 0xaaaaaaaa,
		-1, -2, -167772160, -1 << 31, -1<<31 - 1, -1 << 32, -1<<32 + 7, 1 << 32, 1<<32 + 1, 1<<32 | 167838211, 1<<33 - 1, 1<<40 | 1<<31,
		math.MinInt, math.MinInt + 1, math.MaxInt, math.MaxInt - 1,
	}
}

// someCounts are all numbers of bits, and more on both sides.
func someCounts() []int {
	l := []int{math.MinInt, math.MinInt + 1, -1 << 32, -64, -32, -31, 63, 64, 65, 255, 256, 1 << 31, 1 << 32, 1<<32 + 8, math.MaxInt - 1, math.MaxInt}
	for n := -3; n <= 36; n++ {
		l = append(l, n)
	}
	return l
}

// somePrefixes has every number beside every count, so most may not be; those that may are among them at every length.
func somePrefixes() []api.Prefix {
	var l []api.Prefix
	for _, n := range someCounts() {
		for _, addr := range someNumbers() {
			l = append(l, api.Prefix{Addr: addr, Len: n})
			if n >= 0 && n <= 32 && addr >= 0 && addr <= api.MaxAddr {
				step := last(api.Prefix{Len: n}) + 1
				l = append(l, api.Prefix{Addr: addr - addr%step, Len: n})
			}
		}
	}
	return l
}

func thoseThatMay() []api.Prefix {
	var l []api.Prefix
	seen := map[api.Prefix]bool{}
	for _, p := range somePrefixes() {
		if mayModel(p) && !seen[p] {
			seen[p] = true
			l = append(l, p)
		}
	}
	return l
}

// P1.1: Mask.

func TestMaskAtTheEdges(t *testing.T) {
	for _, x := range []struct{ n, want int }{
		{0, 0}, {1, 2147483648}, {8, 4278190080}, {16, 4294901760}, {24, 4294967040}, {31, 4294967294}, {32, 4294967295},
		{-1, 0}, {-32, 0}, {math.MinInt, 0}, {33, 4294967295}, {64, 4294967295}, {1 << 32, 4294967295}, {math.MaxInt, 4294967295},
	} {
		if got := Mask(x.n); got != x.want {
			t.Errorf("Mask(%d) = %d, want %d", x.n, got, x.want)
		}
	}
}

func TestMaskHasJustTheFirstBits(t *testing.T) {
	for _, n := range someCounts() {
		k := bounded(n)
		want := number(t, strings.Repeat("1", k)+strings.Repeat("0", 32-k))
		if got := Mask(n); got != want {
			t.Errorf("Mask(%d) = %d, want %d", n, got, want)
		}
	}
}

// P1.1: Bit.

func TestBitAtTheEdges(t *testing.T) {
	for _, x := range []struct{ addr, i, want int }{
		{1 << 31, 0, 1}, {1 << 31, 1, 0}, {1, 31, 1}, {1, 30, 0}, {0, 0, 0}, {0, 31, 0}, {api.MaxAddr, 0, 1}, {api.MaxAddr, 31, 1},
		{167772160, 4, 1}, {167772160, 5, 0}, {167772160, 6, 1}, {167772160, 7, 0},
		{api.MaxAddr, -1, 0}, {api.MaxAddr, 32, 0}, {api.MaxAddr, 33, 0}, {api.MaxAddr, 63, 0}, {api.MaxAddr, 64, 0},
		{api.MaxAddr, math.MinInt, 0}, {api.MaxAddr, math.MaxInt, 0}, {api.MaxAddr, 1 << 32, 0},
		{-1, 0, 1}, {-1, 31, 1}, {-1, 32, 0}, {-1, -1, 0}, {1 << 32, 31, 0}, {1 << 32, 0, 0}, {1<<32 + 1, 31, 1}, {math.MinInt, 0, 0}, {math.MaxInt, 0, 1},
	} {
		if got := Bit(x.addr, x.i); got != x.want {
			t.Errorf("Bit(%d, %d) = %d, want %d", x.addr, x.i, got, x.want)
		}
	}
}

func TestBitIsTheDigit(t *testing.T) {
	for _, addr := range someNumbers() {
		text := digits(addr)
		for _, i := range someCounts() {
			want := 0
			if i >= 0 && i <= 31 && text[i] == '1' {
				want = 1
			}
			if got := Bit(addr, i); got != want {
				t.Errorf("Bit(%d, %d) = %d, want %d", addr, i, got, want)
			}
		}
	}
}

// P1.1: Common.

func TestCommonAtTheEdges(t *testing.T) {
	for _, x := range []struct{ a, b, want int }{
		{0, 1, 31}, {0, 0, 32}, {api.MaxAddr, api.MaxAddr, 32}, {0, api.MaxAddr, 0}, {0, 1 << 31, 0}, {1<<31 - 1, 1 << 31, 0},
		{167772160, 167838211, 15}, {167772160, 11 << 24, 7}, {2, 3, 31}, {0x55555555, 0xaaaaaaaa, 0},
		// a bit that is the same again after the first one that is not counts no more
		{0, 1 << 30, 1}, {1 << 31, 1<<31 | 1<<20, 11},
		{-1, api.MaxAddr, 32}, {1 << 32, 0, 32}, {1 << 40, 1 << 50, 32}, {math.MinInt, 0, 32}, {math.MaxInt, -1, 32}, {-1, 0, 0}, {-2, -1, 31}, {1<<32 + 1, 0, 31},
	} {
		if got := Common(x.a, x.b); got != x.want {
			t.Errorf("Common(%d, %d) = %d, want %d", x.a, x.b, got, x.want)
		}
	}
}

func TestCommonIsTheCommonDigits(t *testing.T) {
	for _, a := range someNumbers() {
		for _, b := range someNumbers() {
			x, y := digits(a), digits(b)
			want := 32
			for want > 0 && x[:want] != y[:want] {
				want--
			}
			if got := Common(a, b); got != want {
				t.Errorf("Common(%d, %d) = %d, want %d", a, b, got, want)
			}
		}
	}
}

func TestCommonIsTheBitThatWasTurned(t *testing.T) {
	for _, a := range someNumbers() {
		for i := range 32 {
			if got := Common(a, a^1<<(31-i)); got != i {
				t.Errorf("Common of %d and it with bit %d turned = %d", a, i, got)
			}
		}
	}
}

// P1.2: May.

func TestMayAtTheEdges(t *testing.T) {
	for _, x := range []struct {
		p    api.Prefix
		want bool
	}{
		{api.Prefix{Addr: 167772160, Len: 8}, true}, {api.Prefix{Addr: 167772160, Len: 7}, true}, {api.Prefix{Addr: 167772160, Len: 6}, false},
		{api.Prefix{}, true}, {api.Prefix{Len: 32}, true}, {api.Prefix{Addr: api.MaxAddr, Len: 32}, true}, {api.Prefix{Addr: api.MaxAddr, Len: 31}, false},
		{api.Prefix{Addr: api.MaxAddr - 1, Len: 31}, true}, {api.Prefix{Addr: 1 << 31, Len: 1}, true}, {api.Prefix{Addr: 1 << 31, Len: 0}, false}, {api.Prefix{Addr: 1, Len: 0}, false},
		{api.Prefix{Len: -1}, false}, {api.Prefix{Len: 33}, false}, {api.Prefix{Addr: 7, Len: 33}, false}, {api.Prefix{Len: math.MinInt}, false}, {api.Prefix{Len: math.MaxInt}, false},
		{api.Prefix{Addr: -1, Len: 32}, false}, {api.Prefix{Addr: -1, Len: 0}, false}, {api.Prefix{Addr: 1 << 32, Len: 0}, false}, {api.Prefix{Addr: 1 << 32, Len: 32}, false},
		{api.Prefix{Addr: -1 << 31, Len: 1}, false}, {api.Prefix{Addr: math.MinInt, Len: 0}, false}, {api.Prefix{Addr: math.MaxInt, Len: 32}, false},
	} {
		if got := May(x.p); got != x.want {
			t.Errorf("May(%v) = %v", x.p, got)
		}
	}
}

func TestMayIsTheModels(t *testing.T) {
	for _, p := range somePrefixes() {
		if got := May(p); got != mayModel(p) {
			t.Errorf("May(%v) = %v", p, got)
		}
	}
}

// P1.2: Cut.

func TestCutAtTheEdges(t *testing.T) {
	for _, x := range []struct {
		addr, n int
		want    api.Prefix
	}{
		{167838211, 8, api.Prefix{Addr: 167772160, Len: 8}}, {167838211, 16, api.Prefix{Addr: 167837696, Len: 16}}, {167838211, 32, api.Prefix{Addr: 167838211, Len: 32}},
		{api.MaxAddr, 0, api.Prefix{}}, {api.MaxAddr, 1, api.Prefix{Addr: 1 << 31, Len: 1}}, {api.MaxAddr, 31, api.Prefix{Addr: api.MaxAddr - 1, Len: 31}}, {0, 32, api.Prefix{Len: 32}},
		{api.MaxAddr, -1, api.Prefix{}}, {api.MaxAddr, math.MinInt, api.Prefix{}}, {167838211, 33, api.Prefix{Addr: 167838211, Len: 32}}, {167838211, math.MaxInt, api.Prefix{Addr: 167838211, Len: 32}},
		{-1, 40, api.Prefix{Addr: api.MaxAddr, Len: 32}}, {-1, 4, api.Prefix{Addr: 15 << 28, Len: 4}}, {1 << 32, 32, api.Prefix{Len: 32}}, {1<<32 | 167838211, 8, api.Prefix{Addr: 167772160, Len: 8}},
		{math.MinInt, 32, api.Prefix{Len: 32}}, {math.MaxInt, 1, api.Prefix{Addr: 1 << 31, Len: 1}},
	} {
		if got := Cut(x.addr, x.n); got != x.want {
			t.Errorf("Cut(%d, %d) = %v, want %v", x.addr, x.n, got, x.want)
		}
	}
}

func TestCutMayBeAndIsWhatTheAddressBeginsWith(t *testing.T) {
	for _, addr := range someNumbers() {
		for _, n := range someCounts() {
			k := bounded(n)
			want := api.Prefix{Addr: number(t, digits(addr)[:k]+strings.Repeat("0", 32-k)), Len: k}
			got := Cut(addr, n)
			if got != want || !May(got) || !Has(got, addr) {
				t.Errorf("Cut(%d, %d) = %v, want %v", addr, n, got, want)
			}
		}
	}
}

// P1.3: Has.

func TestHasAtTheEdges(t *testing.T) {
	ten := api.Prefix{Addr: 167772160, Len: 8}
	for _, x := range []struct {
		p    api.Prefix
		addr int
		want bool
	}{
		{ten, 167838211, true}, {ten, first(ten), true}, {ten, last(ten), true}, {ten, first(ten) - 1, false}, {ten, last(ten) + 1, false},
		{api.Prefix{}, 0, true}, {api.Prefix{}, api.MaxAddr, true}, {api.Prefix{}, -1, true}, {api.Prefix{}, 1 << 32, true}, {api.Prefix{}, math.MinInt, true},
		{api.Prefix{Addr: 7, Len: 32}, 7, true}, {api.Prefix{Addr: 7, Len: 32}, 6, false}, {api.Prefix{Addr: 7, Len: 32}, 1<<32 + 7, true}, {api.Prefix{Addr: 7, Len: 32}, -1<<32 + 7, true},
		{api.Prefix{Addr: api.MaxAddr, Len: 32}, -1, true}, {api.Prefix{Addr: api.MaxAddr, Len: 32}, math.MaxInt, true}, {ten, 1<<40 | 167838211, true},
		// those that may not be have none, not even their own Addr
		{api.Prefix{Addr: 167772161, Len: 8}, 167772161, false}, {api.Prefix{Addr: 7, Len: 33}, 7, false}, {api.Prefix{Len: -1}, 0, false}, {api.Prefix{Addr: -1, Len: 32}, -1, false},
		{api.Prefix{Addr: -1, Len: 0}, 7, false}, {api.Prefix{Addr: 1 << 32, Len: 32}, 1 << 32, false}, {api.Prefix{Addr: 1 << 32, Len: 0}, 0, false}, {api.Prefix{Len: math.MaxInt}, 0, false},
	} {
		if got := Has(x.p, x.addr); got != x.want {
			t.Errorf("Has(%v, %d) = %v", x.p, x.addr, got)
		}
	}
}

func TestHasIsThatTheCutIsThePrefix(t *testing.T) {
	for _, p := range somePrefixes() {
		for _, addr := range someNumbers() {
			got := Has(p, addr)
			if got != hasModel(p, addr) || got != (Cut(addr, p.Len) == p) {
				t.Errorf("Has(%v, %d) = %v", p, addr, got)
			}
		}
	}
}

// P1.3: Within.

func TestWithinAtTheEdges(t *testing.T) {
	ten := api.Prefix{Addr: 167772160, Len: 8}
	all := api.Prefix{}
	for _, x := range []struct {
		p, q api.Prefix
		want bool
	}{
		{ten, api.Prefix{Addr: 167837696, Len: 16}, true}, {api.Prefix{Addr: 167837696, Len: 16}, ten, false}, {ten, ten, true}, {all, all, true}, {all, ten, true}, {ten, all, false},
		{ten, api.Prefix{Addr: 167772160, Len: 9}, true}, {api.Prefix{Addr: 167772160, Len: 9}, ten, false}, {ten, api.Prefix{Addr: 11 << 24, Len: 8}, false}, {ten, api.Prefix{Addr: 11 << 24, Len: 9}, false},
		{ten, api.Prefix{Addr: last(ten), Len: 32}, true}, {ten, api.Prefix{Addr: last(ten) + 1, Len: 32}, false}, {all, api.Prefix{Addr: api.MaxAddr, Len: 32}, true},
		{api.Prefix{Len: 32}, api.Prefix{Len: 32}, true}, {api.Prefix{Len: 32}, api.Prefix{Addr: 1, Len: 32}, false},
		// the same Addr, but q is the shorter one
		{api.Prefix{Len: 32}, all, false},
		// one of them may not be
		{ten, api.Prefix{Addr: 167838211, Len: 16}, false}, {all, api.Prefix{Addr: 7, Len: 33}, false}, {all, api.Prefix{Addr: -1, Len: 32}, false}, {all, api.Prefix{Addr: 1 << 32, Len: 32}, false},
		{api.Prefix{Len: -1}, ten, false}, {api.Prefix{Addr: 1, Len: 0}, api.Prefix{Addr: 1, Len: 32}, false}, {api.Prefix{Addr: 1 << 32, Len: 0}, ten, false}, {api.Prefix{Addr: -1, Len: 32}, api.Prefix{Addr: -1, Len: 32}, false},
		{all, api.Prefix{Len: math.MaxInt}, false}, {api.Prefix{Len: math.MinInt}, all, false}, {api.Prefix{Len: 33}, api.Prefix{Len: 33}, false},
	} {
		if got := Within(x.p, x.q); got != x.want {
			t.Errorf("Within(%v, %v) = %v", x.p, x.q, got)
		}
	}
}

func TestWithinIsTheModels(t *testing.T) {
	// the whole list beside itself would be some millions of pairs; those that may be, beside all, hold every reason for a no
	all := somePrefixes()
	for _, p := range thoseThatMay() {
		for _, q := range all {
			if got := Within(p, q); got != withinModel(p, q) {
				t.Fatalf("Within(%v, %v) = %v", p, q, got)
			}
			if got := Within(q, p); got != withinModel(q, p) {
				t.Fatalf("Within(%v, %v) = %v", q, p, got)
			}
		}
	}
}

// P1.4.

func TestOneIsWithinTheOtherOrTheyShareNothing(t *testing.T) {
	l := thoseThatMay()
	for _, p := range l {
		for _, q := range l {
			share := max(first(p), first(q)) <= min(last(p), last(q))
			if (Within(p, q) || Within(q, p)) != share {
				t.Fatalf("%v and %v share addresses: %v, but within one another: %v, %v", p, q, share, Within(p, q), Within(q, p))
			}
			for _, addr := range []int{first(q), last(q)} {
				if both := Has(p, addr) && Has(q, addr); both && !share || Within(p, q) && !both {
					t.Fatalf("%v and %v at %d: both have it: %v", p, q, addr, both)
				}
			}
		}
	}
}

func TestPrefixesFromCommonBitsHoldBoth(t *testing.T) {
	for _, a := range someNumbers() {
		for _, b := range someNumbers() {
			n := Common(a, b)
			if p := Cut(a, n); p != Cut(b, n) || !Within(p, Cut(a, 32)) || !Within(p, Cut(b, 32)) {
				t.Errorf("the prefix %v of %d and %d", p, a, b)
			}
			if n < 32 && (Within(Cut(a, n+1), Cut(b, n+1)) || Has(Cut(a, n+1), b)) {
				t.Errorf("%d and %d have more than %d bits in common", a, b, n)
			}
		}
	}
}
