package editdist_test

import (
	"math/rand"
	"slices"
	"testing"

	"bookplate/api"
	"bookplate/editdist"
)

func TestP11_2Metric(t *testing.T) {
	check := func(a, b, c []int) {
		ab, ba, bc, ac := editdist.Distance(a, b), editdist.Distance(b, a), editdist.Distance(b, c), editdist.Distance(a, c)
		if (ab == 0) != slices.Equal(a, b) || ab < 0 || ab != ba || ac > ab+bc {
			t.Fatalf("%v, %v, %v: from the first to the second one %d, back %d, to the third one %d, from the first to the third one %d", a, b, c, ab, ba, bc, ac)
		}
	}
	all := allLists([]int{0, 1}, 4)
	for _, a := range all {
		for _, b := range all {
			for _, c := range all {
				check(a, b, c)
			}
		}
	}
	g := rand.New(rand.NewSource(118))
	for range 20000 {
		alphabet := anyOf(g, alphabets)
		a := anyList(g, alphabet, 30)
		check(a, change(g, alphabet, a, g.Intn(6)), anyList(g, alphabet, 30))
		check(a, slices.Clone(a), change(g, alphabet, a, 1))
	}
}

func TestP11_3Bounds(t *testing.T) {
	g := rand.New(rand.NewSource(119))
	for range 20000 {
		a, b := anyPair(g, 30)
		d := editdist.Distance(a, b)
		if d < len(a)-len(b) || d < len(b)-len(a) || d > len(a) && d > len(b) {
			t.Fatalf("%v, %v: %d", a, b, d)
		}
		// Both bounds are reached.
		if all := editdist.Distance(a, make([]int, len(b))); !slices.Contains(a, 0) && all != max(len(a), len(b)) {
			t.Fatalf("%v, and %d other characters: %d", a, len(b), all)
		}
		if n := g.Intn(len(a) + 1); editdist.Distance(a[:n], a) != len(a)-n || editdist.Distance(a, a[n:]) != n {
			t.Fatalf("%v and its parts, divided at %d", a, n)
		}
	}
}

func TestP11_3CommonEnds(t *testing.T) {
	g := rand.New(rand.NewSource(120))
	for range 20000 {
		a, b := anyPair(g, 12)
		alphabet := anyOf(g, alphabets)
		if g.Intn(2) == 0 && len(a) > 0 {
			alphabet = a
		}
		front, back := anyList(g, alphabet, 12), anyList(g, alphabet, 12)
		want := editdist.Distance(a, b)
		for _, c := range [][2][]int{{front, nil}, {nil, back}, {front, back}} {
			if d := editdist.Distance(slices.Concat(c[0], a, c[1]), slices.Concat(c[0], b, c[1])); d != want {
				t.Fatalf("%v, %v between %v and %v: %d, want %d", a, b, c[0], c[1], d, want)
			}
		}
	}
}

func TestP11_4Scripts(t *testing.T) {
	g := rand.New(rand.NewSource(121))
	for range 20000 {
		a, b := anyPair(g, 30)
		l := editdist.Script(a, b)
		if made, err := editdist.Apply(a, l); err != api.OK || !slices.Equal(made, b) {
			t.Fatalf("%v, %v: %v leads to %v, %v", a, b, l, made, err)
		}
		if made, err := modelApply(a, l); err != api.OK || !slices.Equal(made, b) {
			t.Fatalf("%v, %v: %v leads to %v, %v in the model", a, b, l, made, err)
		}
		if editdist.Cost(l) != editdist.Distance(a, b) {
			t.Fatalf("%v, %v: %v costs %d, and the distance is %d", a, b, l, editdist.Cost(l), editdist.Distance(a, b))
		}
	}
}

// No script that leads to a list costs less than the least one: all scripts of short lists, and some of longer ones.
func TestP11_4NoneCostsLess(t *testing.T) {
	alphabet := []int{0, 1}
	for _, a := range allLists(alphabet, 4) {
		costs := map[[9]int]int{} // of the lists that scripts lead to, with their lengths
		allScripts(len(a), alphabet, 3, func(l []editdist.Op) {
			made, _ := modelApply(a, l)
			key := [9]int{8: len(made)}
			copy(key[:], made)
			if cost, ok := costs[key]; !ok || editdist.Cost(l) < cost {
				costs[key] = editdist.Cost(l)
			}
		})
		if len(costs) < 15 {
			t.Error(a, costs)
		}
		for key, cost := range costs {
			b := key[:key[8]]
			if d := editdist.Distance(a, b); d != cost || editdist.Cost(editdist.Script(a, b)) != cost {
				t.Fatalf("%v, %v: the distance %d, the script %v, but the least cost is %d", a, b, d, editdist.Script(a, b), cost)
			}
		}
	}
	g := rand.New(rand.NewSource(122))
	for range 20000 {
		letters := anyOf(g, alphabets)
		a := anyList(g, letters, 20)
		l := anyScript(g, letters, len(a))
		b, err := editdist.Apply(a, l)
		if err != api.OK || editdist.Cost(editdist.Script(a, b)) > editdist.Cost(l) {
			t.Fatalf("%v: %v leads to %v, %v for less than %v", a, l, b, err, editdist.Script(a, b))
		}
	}
}

func TestP11_5Joining(t *testing.T) {
	g := rand.New(rand.NewSource(123))
	less := 0
	for range 20000 {
		a, b := anyPair(g, 15)
		c, d := anyPair(g, 15)
		if g.Intn(2) == 0 {
			c, d = b, a
		}
		joined, sum := editdist.Distance(slices.Concat(a, c), slices.Concat(b, d)), editdist.Distance(a, b)+editdist.Distance(c, d)
		if joined > sum {
			t.Fatalf("%v, %v joined with %v, %v: %d, more than %d", a, b, c, d, joined, sum)
		}
		if joined < sum {
			less++
		}
	}
	if less < 1000 {
		t.Error("joined lists are nearer too seldom:", less)
	}
}

func TestP11_6Subsequences(t *testing.T) {
	check := func(a, b []int) {
		l := editdist.Subsequence(a, b)
		if !isPart(l, a) || !isPart(l, b) {
			t.Fatalf("%v, %v: %v", a, b, l)
		}
		if n := longestPart(a, b); len(l) != n {
			t.Fatalf("%v, %v: %v, but there is one of the length %d", a, b, l, n)
		}
	}
	all := allLists([]int{0, 1, 2}, 4)
	for _, a := range all {
		for _, b := range all {
			check(a, b)
		}
	}
	g := rand.New(rand.NewSource(124))
	for range 5000 {
		check(anyPair(g, 10))
	}
}

// The model of the common subsequence has its lengths from costs; here they come from trying all lists.
func TestP11_6Definition(t *testing.T) {
	all := allLists([]int{0, 1, 2}, 3)
	for _, a := range all {
		for _, b := range all {
			lengths := func(i, j int) int { return longestPart(a[i:], b[j:]) }
			if l, want := editdist.Subsequence(a, b), modelSubsequence(a, b, lengths); !slices.Equal(l, want) {
				t.Fatalf("%v, %v: %v, want %v", a, b, l, want)
			}
		}
	}
}
