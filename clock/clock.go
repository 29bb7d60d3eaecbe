// Package clock has clocks: see doc/01-clock.md.
package clock

import "prunewell/api"

// Wrong tells what is wrong with c as a clock of n authors.
func Wrong(c api.Clock, n int) api.Errno {
	if n < 1 || n > api.MaxAuthors || len(c) != n {
		return api.ErrMany
	}
	for _, entry := range c {
		if entry < 0 || entry > api.MaxSeq {
			return api.ErrRange
		}
	}
	return api.OK
}

// Join has the greater entry of each author: the least that sees both.
func Join(a, b api.Clock) api.Clock {
	return combine(a, b, func(x, y int) int { return max(x, y) })
}

// Meet has the lesser entry of each author, of as many as the longer clock has.
func Meet(a, b api.Clock) api.Clock {
	return combine(a, b, func(x, y int) int { return min(x, y) })
}

// Sees tells whether a is nowhere less than b.
func Sees(a, b api.Clock) bool {
	left, right := entries(a), entries(b)
	for author := range longer(a, b) {
		if left(author) < right(author) {
			return false
		}
	}
	return true
}

// HasAuthor tells whether c has an entry of that author.
func HasAuthor(c api.Clock, author int) bool {
	return 0 <= author && author < len(c)
}

// Has tells whether c has that author, and saw seq or more of theirs.
func Has(c api.Clock, author, seq int) bool {
	return HasAuthor(c, author) && c[author] >= seq
}

// Tick has 1 more than c for that author, and is c's copy where c has not that author.
func Tick(c api.Clock, author int) api.Clock {
	out := Copy(c)
	if HasAuthor(c, author) {
		out[author]++
	}
	return out
}

// Copy is c in new memory.
func Copy(c api.Clock) api.Clock {
	out := make(api.Clock, len(c))
	copy(out, c)
	return out
}

func longer(a, b api.Clock) int {
	return max(len(a), len(b))
}

// entries answers what reads c by author. It reads 0 where c has no entry, so
// that clocks of different lengths can be held against each other as they are.
func entries(c api.Clock) func(author int) int {
	return func(author int) int {
		if !HasAuthor(c, author) {
			return 0
		}
		return c[author]
	}
}

func combine(a, b api.Clock, choose func(x, y int) int) api.Clock {
	left, right := entries(a), entries(b)
	out := make(api.Clock, longer(a, b))
	for author := range out {
		out[author] = choose(left(author), right(author))
	}
	return out
}
