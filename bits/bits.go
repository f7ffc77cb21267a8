// Package bits is layer 1: see shared/doc/01-bits.md.
package bits

import "wayfinder/api"

// width is how many bits an address has.
const width = 32

// word is an address in just its own 32 bits: converting any other number to it leaves the last 32, which are those that count.
type word uint32

// bit is 0 beyond the word's ends, so that no shift is by a negative number.
func (w word) bit(i int) int {
	if i < 0 || i >= width {
		return 0
	}
	return int(w >> (width - 1 - i) & 1)
}

// bound brings a number of bits to one that a word can have.
func bound(n int) int { return min(max(n, 0), width) }

// head is the word whose first n bits are 1; a shift by all 32 leaves none.
func head(n int) word { return ^word(0) << (width - bound(n)) }

// same tells how long two tellers of bits agree, from bit 0 on.
func same(a, b func(i int) int) int {
	for i := range width {
		if a(i) != b(i) {
			return i
		}
	}
	return width
}

// Mask is the number of which just the first n of 32 bits are 1.
func Mask(n int) int { return int(head(n)) }

// May tells whether a prefix may be: cutting changes whatever may not.
func May(p api.Prefix) bool { return Has(p, p.Addr) }

// Has tells whether an address is of a prefix; one that may not be has none, as no cut answers it.
func Has(p api.Prefix, addr int) bool { return Cut(addr, p.Len) == p }

// Within tells whether q's addresses are all p's too.
func Within(p, q api.Prefix) bool {
	return May(p) && May(q) && q.Len >= p.Len && Has(p, q.Addr)
}

// Bit is bit i of an address, from the highest one on.
func Bit(addr, i int) int { return word(addr).bit(i) }

// Common is how many bits two addresses have in common at first.
func Common(a, b int) int { return same(word(a).bit, word(b).bit) }

// Cut is the prefix of n bits that an address begins with.
func Cut(addr, n int) api.Prefix {
	return api.Prefix{Addr: int(word(addr) & head(n)), Len: bound(n)}
}
