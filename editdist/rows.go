package editdist

import (
	"iter"
	"math"
	"slices"
)

// A pair has the lists that are compared. The rests a[i:] and b[j:] are on the diagonal j-i.
type pair struct {
	a, b     []int
	replaced int // the characters of a that Replace takes: 0 if there is no Replace
	most     int // the greatest cost that is looked at, at least the difference of the lengths
}

// A row tells which rests can be led from that of a to that of b at a cost, or for less. Along a diagonal, longer rests never cost less than shorter ones, so that the least place in a tells all of it.
type row struct {
	cost  int
	low   int   // the least diagonal
	least []int // the least place for each diagonal from low on
}

// never is the place for diagonals on which no rests have such a cost.
const never = math.MaxInt

// span is the number of rows between those that are kept.
const span = 256

// at returns the least place on a diagonal.
func (r row) at(diagonal int) int {
	if n := diagonal - r.low; n >= 0 && n < len(r.least) {
		return r.least[n]
	}
	return never
}

// first returns the row of the cost 0: the common end of both lists.
func (p pair) first() row {
	diagonal := len(p.b) - len(p.a)
	return row{low: diagonal, least: []int{p.extend(len(p.a), diagonal)}}
}

// next returns the row behind a row. It leaves out the diagonals from which no end is reached at its cost, and those that are not reached from the diagonal 0 by what is then left of the cost most.
func (p pair) next(last row) row {
	cost, end := last.cost+1, len(p.b)-len(p.a)
	low, high := max(end-cost, cost-p.most), min(end+cost, p.most-cost)
	r := row{cost: cost, low: low, least: make([]int, high-low+1)}
	for n := range r.least {
		diagonal := low + n
		i := min(last.at(diagonal)-p.replaced, last.at(diagonal-1)-1, last.at(diagonal+1))
		// The beginning of a list may have been reached at a lower cost.
		r.least[n] = p.extend(max(i, 0, -diagonal), diagonal)
	}
	return r
}

// extend returns the place that is reached from a place by keeping characters.
func (p pair) extend(i, diagonal int) int {
	for i > 0 && i+diagonal > 0 && p.a[i-1] == p.b[i+diagonal-1] {
		i--
	}
	return i
}

// rows yields the rows from one on whose costs do not suffice for the whole lists, and are at most the cost most.
func (p pair) rows(from row) iter.Seq[row] {
	return func(yield func(row) bool) {
		for r := from; r.at(0) > 0 && yield(r) && r.cost < p.most; {
			r = p.next(r)
		}
	}
}

// backward yields all rows from the last one to the first one. It keeps a few of them, and makes the others again, as all of them at once may need more memory than there is.
func (p pair) backward() iter.Seq[row] {
	return func(yield func(row) bool) {
		var kept []row
		for r := range p.rows(p.first()) {
			if r.cost%span == 0 {
				kept = append(kept, r)
			}
		}
		for _, k := range slices.Backward(kept) {
			for _, r := range slices.Backward(p.block(k)) {
				if !yield(r) {
					return
				}
			}
		}
	}
}

// block returns the rows from one that is kept up to the next one.
func (p pair) block(k row) []row {
	var l []row
	for r := range p.rows(k) {
		l = append(l, r)
		if len(l) == span {
			break
		}
	}
	return l
}

// script returns the least script. The row of a cost tells which operations leave rests that can be done at this cost.
func (p pair) script() []Op {
	var l []Op
	i, j := 0, 0
	take := func(kind int) {
		o := Op{Kind: kind}
		if kind == Replace || kind == Insert {
			o.C = p.b[j]
		}
		if kind != Insert {
			i++
		}
		if kind != Delete {
			j++
		}
		l = append(l, o)
	}
	keep := func() {
		// To keep a character never costs more than anything else.
		for i < len(p.a) && j < len(p.b) && p.a[i] == p.b[j] {
			take(Keep)
		}
	}
	keep()
	for r := range p.backward() {
		take(p.choose(r, i, j))
		keep()
	}
	return l
}

// choose returns the first kind behind Keep that leaves rests for whose cost there is a row. Where a list has ended, what would take a character of it leads to a diagonal outside of the row.
func (p pair) choose(r row, i, j int) int {
	switch {
	case p.replaced > 0 && r.at(j-i) <= i+1:
		return Replace
	case r.at(j-i-1) <= i+1:
		return Delete
	}
	return Insert
}
