package editdist_test

import (
	"math/rand"
	"slices"

	"bookplate/api"
	"bookplate/editdist"
)

// The model performs scripts by the definition, finds distances from the beginnings of lists on, or by trying all scripts, and chooses operations by asking for the distances of all rests.

const (
	least    = -1 << 63
	greatest = 1<<63 - 1
)

func anyOf[T any](g *rand.Rand, l []T) T {
	return l[g.Intn(len(l))]
}

// alphabets are sets of characters; with few of them, lists have much in common.
var alphabets = [][]int{{1, 2}, {0, 1}, {-1, 0, 1}, {'a', 'b', 'c', 'd'}, {least, greatest, 0, -1}, {1, 1 << 8, 1 << 16, 1 << 32, 1<<32 + 1, -1 << 32}, {7}}

// anyList returns a list of at most max characters.
func anyList(g *rand.Rand, alphabet []int, max int) []int {
	l := make([]int, g.Intn(max+1))
	for i := range l {
		l[i] = anyOf(g, alphabet)
	}
	return l
}

// anyPair returns two lists; half of the time, the second one is the first one with some changes.
func anyPair(g *rand.Rand, max int) (a, b []int) {
	alphabet := anyOf(g, alphabets)
	a = anyList(g, alphabet, max)
	if g.Intn(2) == 0 {
		return a, anyList(g, alphabet, max)
	}
	return a, change(g, alphabet, a, g.Intn(5))
}

// change returns a list with n changes, some of which may undo others.
func change(g *rand.Rand, alphabet, l []int, n int) []int {
	l = slices.Clone(l)
	for range n {
		i := g.Intn(len(l) + 1)
		switch g.Intn(3) {
		case 0:
			l = slices.Insert(l, i, anyOf(g, alphabet))
		case 1:
			if i < len(l) {
				l = slices.Delete(l, i, i+1)
			}
		default:
			if i < len(l) {
				l[i] = anyOf(g, alphabet)
			}
		}
	}
	return l
}

// allLists returns all lists of at most max characters of an alphabet.
func allLists(alphabet []int, max int) [][]int {
	all := [][]int{nil}
	for done := 0; max > 0; max-- {
		end := len(all)
		for _, l := range all[done:end] {
			for _, c := range alphabet {
				all = append(all, append(slices.Clone(l), c))
			}
		}
		done = end
	}
	return all
}

// modelCosts returns the cost of leading the first i characters of a to the first j of b, for all i and j. Without Replace, only the other operations are counted.
func modelCosts(a, b []int, replace bool) [][]int {
	costs := make([][]int, len(a)+1)
	for i := range costs {
		costs[i] = make([]int, len(b)+1)
		for j := range costs[i] {
			switch {
			case i == 0 || j == 0:
				costs[i][j] = i + j
			case a[i-1] == b[j-1]:
				costs[i][j] = costs[i-1][j-1]
			default:
				costs[i][j] = 1 + min(costs[i-1][j], costs[i][j-1])
				if replace {
					costs[i][j] = min(costs[i][j], 1+costs[i-1][j-1])
				}
			}
		}
	}
	return costs
}

func modelDistance(a, b []int) int {
	return modelCosts(a, b, true)[len(a)][len(b)]
}

func reversed(l []int) []int {
	l = slices.Clone(l)
	slices.Reverse(l)
	return l
}

// modelScript chooses the first operation with which the rest can still be done at the least cost. The rests are the beginnings of the reversed lists.
func modelScript(a, b []int) []editdist.Op {
	costs := modelCosts(reversed(a), reversed(b), true)
	rest := func(i, j int) int {
		if i > len(a) || j > len(b) {
			return greatest - 1
		}
		return costs[len(a)-i][len(b)-j]
	}
	var l []editdist.Op
	for i, j := 0, 0; i < len(a) || j < len(b); {
		switch cost := rest(i, j); {
		case i < len(a) && j < len(b) && a[i] == b[j] && rest(i+1, j+1) == cost:
			l = append(l, editdist.Op{Kind: 1})
			i, j = i+1, j+1
		case rest(i+1, j+1) == cost-1:
			l = append(l, editdist.Op{Kind: 2, C: b[j]})
			i, j = i+1, j+1
		case rest(i+1, j) == cost-1:
			l = append(l, editdist.Op{Kind: 3})
			i++
		default:
			l = append(l, editdist.Op{Kind: 4, C: b[j]})
			j++
		}
	}
	return l
}

// modelSubsequence walks by the definition; lengths has L(i, j).
func modelSubsequence(a, b []int, lengths func(i, j int) int) []int {
	var l []int
	for i, j := 0, 0; i < len(a) && j < len(b); {
		switch {
		case a[i] == b[j]:
			l = append(l, a[i])
			i, j = i+1, j+1
		case lengths(i+1, j) >= lengths(i, j+1):
			i++
		default:
			j++
		}
	}
	return l
}

// modelLengths has L(i, j) for two lists: what is not in common must be deleted, or inserted.
func modelLengths(a, b []int) func(i, j int) int {
	costs := modelCosts(reversed(a), reversed(b), false)
	return func(i, j int) int {
		i, j = len(a)-i, len(b)-j
		return (i + j - costs[i][j]) / 2
	}
}

// parts calls a function for each list that can be got by leaving out characters.
func parts(l []int, each func(part []int)) {
	for set := range 1 << len(l) {
		var part []int
		for i, c := range l {
			if set>>i&1 == 1 {
				part = append(part, c)
			}
		}
		each(part)
	}
}

// isPart reports whether a list can be got from another one by leaving out characters.
func isPart(part, l []int) bool {
	for _, c := range l {
		if len(part) > 0 && part[0] == c {
			part = part[1:]
		}
	}
	return len(part) == 0
}

// longestPart tries all lists that can be got from a and from b.
func longestPart(a, b []int) int {
	n := 0
	parts(a, func(part []int) {
		if len(part) > n && isPart(part, b) {
			n = len(part)
		}
	})
	return n
}

// modelApply performs a script with the place in the list and the result.
func modelApply(a []int, l []editdist.Op) ([]int, api.Errno) {
	for _, o := range l {
		if o.Kind < 1 || o.Kind > 4 || (o.Kind == 1 || o.Kind == 3) && o.C != 0 {
			return nil, api.ErrArg
		}
	}
	made, at := []int{}, 0
	for _, o := range l {
		takes, puts := o.Kind != 4, o.Kind != 3
		if takes && at >= len(a) {
			return nil, api.ErrRange
		}
		c := o.C
		if o.Kind == 1 {
			c = a[at]
		}
		if puts {
			made = append(made, c)
		}
		if takes {
			at++
		}
	}
	if at != len(a) {
		return nil, api.ErrRange
	}
	return made, api.OK
}

// allScripts calls a function for each script of a list that costs at most most, with characters of an alphabet.
func allScripts(n int, alphabet []int, most int, each func(l []editdist.Op)) {
	var add func(l []editdist.Op, n, most int)
	add = func(l []editdist.Op, n, most int) {
		if n == 0 {
			each(l)
		}
		if n > 0 {
			add(append(slices.Clone(l), editdist.Op{Kind: 1}), n-1, most)
		}
		if most == 0 {
			return
		}
		for _, c := range alphabet {
			add(append(slices.Clone(l), editdist.Op{Kind: 4, C: c}), n, most-1)
			if n > 0 {
				add(append(slices.Clone(l), editdist.Op{Kind: 2, C: c}), n-1, most-1)
			}
		}
		if n > 0 {
			add(append(slices.Clone(l), editdist.Op{Kind: 3}), n-1, most-1)
		}
	}
	add(nil, n, most)
}

// anyScript returns a script that can be performed on a list of n characters.
func anyScript(g *rand.Rand, alphabet []int, n int) []editdist.Op {
	var l []editdist.Op
	for n > 0 || g.Intn(3) == 0 {
		o := editdist.Op{Kind: 1 + g.Intn(4)}
		if n == 0 {
			o.Kind = 4
		}
		if o.Kind == 2 || o.Kind == 4 {
			o.C = anyOf(g, alphabet)
		}
		if o.Kind != 4 {
			n--
		}
		l = append(l, o)
	}
	return l
}

// spoil returns a script with some wrong or further operations, or without some.
func spoil(g *rand.Rand, l []editdist.Op) []editdist.Op {
	l = slices.Clone(l)
	for range 1 + g.Intn(2) {
		i := g.Intn(len(l) + 1)
		switch {
		case g.Intn(3) == 0 && i < len(l):
			l = slices.Delete(l, i, i+1)
		case g.Intn(2) == 0:
			l = slices.Insert(l, i, editdist.Op{Kind: 1 + g.Intn(4)})
		default:
			l = slices.Insert(l, i, editdist.Op{Kind: anyOf(g, []int{1, 2, 3, 4, 0, 5, -1, 6, least, greatest}), C: anyOf(g, []int{0, 0, 1, -1, least, greatest})})
		}
	}
	return l
}
