package vote_test

import (
	"fmt"
	"math"
	"math/rand"
	"slices"
	"testing"

	"dynpos/api"
	"dynpos/vote"
)

// line returns fixes on a line with the same error.
func line(err int, places ...int) []api.Fix {
	var l []api.Fix
	for _, x := range places {
		l = append(l, api.Fix{X: x, Error: err})
	}
	return l
}

func TestAgree(t *testing.T) {
	a := api.Fix{X: 100, Y: -50, Error: 10}
	for _, x := range []struct {
		b    api.Fix
		want bool
	}{
		{a, true}, {api.Fix{X: 115, Y: -50, Error: 5}, true}, {api.Fix{X: 116, Y: -50, Error: 5}, false}, {api.Fix{X: 100, Y: -66, Error: 5}, false}, {api.Fix{X: 115, Y: -35, Error: 5}, true}, {api.Fix{X: 110, Y: -50}, true},
		{api.Fix{X: 100, Y: -50, Error: -1}, false}, {api.Fix{X: 100, Y: -50, Error: api.MaxError}, true}, {api.Fix{X: 100, Y: -50, Error: api.MaxError + 1}, false}, {api.Fix{X: math.MinInt, Error: 5}, false}, {api.Fix{Y: api.MaxPosition + 1, Error: 5}, false}, {api.Fix{Error: math.MaxInt}, false},
	} {
		if vote.Agree(a, x.b) != x.want || vote.Agree(x.b, a) != x.want {
			t.Errorf("%v and %v: %v", a, x.b, !x.want)
		}
	}
	if vote.Agree(api.Fix{X: api.MaxPosition + 1}, api.Fix{X: api.MaxPosition + 1}) {
		t.Error("a place that is not valid agrees with itself")
	}
}

func TestClique(t *testing.T) {
	l := append(line(5, 0, 10, 20, 1000), api.Fix{Error: -1})
	for _, x := range []struct {
		members []int
		want    bool
	}{{nil, true}, {[]int{0}, true}, {[]int{0, 1}, true}, {[]int{1, 2}, true}, {[]int{0, 2}, false}, {[]int{0, 1, 2}, false}, {[]int{1, 0}, false}, {[]int{1, 1}, false}, {[]int{3}, true}, {[]int{4}, false}, {[]int{5}, false}, {[]int{-1}, false}} {
		if vote.Clique(l, x.members) != x.want {
			t.Errorf("%v: %v", x.members, !x.want)
		}
	}
}

func TestCauses(t *testing.T) {
	for _, x := range []struct{ members, want []int }{{nil, nil}, {[]int{0, 1, 2}, []int{3, 5}}, {[]int{2, 9, -1, 1}, []int{3, 5}}, {[]int{4, 0}, []int{5}}, {[]int{1, 1}, []int{3}}, {[]int{3}, []int{-7}}} {
		if got := vote.Causes([]int{5, 3, 5, -7}, x.members); !slices.Equal(got, x.want) {
			t.Errorf("%v: %v", x.members, got)
		}
	}
}

func TestDecide(t *testing.T) {
	for _, x := range []struct {
		causes []int
		l      []api.Fix
		want   api.Vote
	}{
		{[]int{0, 1, 2}, line(5, 0, 10, 1000), api.Vote{Members: []int{0, 1}, Causes: []int{0, 1}}},
		{[]int{0, 1, 2}, line(5, 0, 10, 20), api.Vote{Tie: true}},
		{nil, nil, api.Vote{}},
		{[]int{3}, line(5, 7), api.Vote{Members: []int{0}, Causes: []int{3}}},
		{[]int{3, 2}, line(5, 0, 100), api.Vote{Tie: true}},
		{[]int{3, 3}, line(5, 0, 100), api.Vote{Members: []int{0}, Causes: []int{3}}},
		{[]int{3, 3, 3}, line(5, 100, 0, 0), api.Vote{Members: []int{1, 2}, Causes: []int{3}}},
		{[]int{1, 1, 1, 2, 0}, line(5, 0, 0, 0, 500, 500), api.Vote{Members: []int{3, 4}, Causes: []int{0, 2}}},
		{[]int{1, 2, 1, 2}, line(5, 0, 0, 50, 50), api.Vote{Members: []int{0, 1}, Causes: []int{1, 2}}},
		{[]int{1, 2, 1, 3}, line(5, 0, 0, 50, 50), api.Vote{Tie: true}},
	} {
		got, e := vote.Decide(x.causes, x.l)
		if fmt.Sprint(got) != fmt.Sprint(x.want) || e != api.OK {
			t.Errorf("%v, %v: %v, error %d, not %v", x.causes, x.l, got, e, x.want)
		}
		if !vote.Check(x.causes, x.l, x.want) {
			t.Errorf("%v, %v: Check does not hold", x.causes, x.l)
		}
	}
}

func TestDecideErrors(t *testing.T) {
	nine := make([]int, 9)
	for _, x := range []struct {
		causes []int
		l      []api.Fix
		want   api.Errno
	}{
		{[]int{0}, nil, api.ErrShape}, {nine, line(1, 0), api.ErrShape}, {nine, make([]api.Fix, 9), api.ErrLimit}, {[]int{-1}, line(1, 0), api.ErrRange}, {[]int{8}, line(1, 0), api.ErrRange}, {[]int{0}, line(-1, 0), api.ErrRange}, {[]int{0}, line(1, api.MaxPosition+1), api.ErrRange},
	} {
		got, e := vote.Decide(x.causes, x.l)
		if e != x.want || got.Tie || got.Members != nil || got.Causes != nil || vote.Check(x.causes, x.l, got) {
			t.Errorf("%v, %v: %v, error %d", x.causes, x.l, got, e)
		}
	}
}

func TestCheckOfWrongVotes(t *testing.T) {
	causes, l := []int{0, 1, 2}, line(5, 0, 10, 1000)
	for _, v := range []api.Vote{{}, {Tie: true}, {Members: []int{0, 1}}, {Members: []int{0, 1}, Causes: []int{0, 1}, Tie: true}, {Members: []int{0}, Causes: []int{0}}, {Members: []int{1, 0}, Causes: []int{0, 1}}} {
		if vote.Check(causes, l, v) {
			t.Errorf("%v", v)
		}
	}
}

// elements returns the indices whose bits a number has.
func elements(bits int) []int {
	var l []int
	for i := range api.MaxReferences {
		if bits>>i&1 == 1 {
			l = append(l, i)
		}
	}
	return l
}

// slow is Decide by its definition: all sets, the greatest ones, and the best one of those.
func slow(causes []int, l []api.Fix) api.Vote {
	var sets [][]int
	most := 0
	for bits := range 1 << len(l) {
		if set := elements(bits); vote.Clique(l, set) {
			sets = append(sets, set)
			most = max(most, len(vote.Causes(causes, set)))
		}
	}
	sets = slices.DeleteFunc(sets, func(s []int) bool { return len(vote.Causes(causes, s)) < most })
	for _, s := range sets {
		if !slices.Equal(vote.Causes(causes, s), vote.Causes(causes, sets[0])) {
			return api.Vote{Tie: true}
		}
	}
	slices.SortFunc(sets, func(a, b []int) int {
		if len(a) != len(b) {
			return len(b) - len(a)
		}
		return slices.Compare(a, b)
	})
	return api.Vote{Members: sets[0], Causes: vote.Causes(causes, sets[0])}
}

func TestDecideByItsDefinition(t *testing.T) {
	r := rand.New(rand.NewSource(2))
	for range 400 {
		n := r.Intn(api.MaxReferences + 1)
		causes, l := make([]int, n), make([]api.Fix, n)
		for i := range l {
			causes[i], l[i] = r.Intn(1+r.Intn(api.MaxCauses)), api.Fix{X: r.Intn(40), Y: r.Intn(20), Error: 1 + r.Intn(6)}
		}
		got, e := vote.Decide(causes, l)
		if want := slow(causes, l); fmt.Sprint(got) != fmt.Sprint(want) || e != api.OK {
			t.Fatalf("%v, %v: %v, not %v", causes, l, got, want)
		}
	}
}
