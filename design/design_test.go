package design_test

import (
	"fmt"
	"math/rand"
	"slices"
	"testing"

	"dynpos/api"
	"dynpos/design"
)

func same(t *testing.T, name string, got, want any) {
	t.Helper()
	if g, w := fmt.Sprint(got), fmt.Sprint(want); g != w {
		t.Errorf("%s: %s, not %s", name, g, w)
	}
}

func part(kind, number int) api.Part { return api.Part{Kind: kind, Number: number} }

func parts(l ...int) []api.Part {
	var p []api.Part
	for i := 0; i < len(l); i += 2 {
		p = append(p, part(l[i], l[i+1]))
	}
	return p
}

func link(a, b, c, d int) api.Link { return api.Link{From: part(a, b), To: part(c, d)} }

// cooled has two generators, each with its thruster and its own cooling, and an auxiliary that cools both.
func cooled() api.Design {
	return api.Design{
		Parts:  parts(1, 0, 1, 1, 5, 0, 5, 1, 9, 0, 9, 1, 9, 2),
		Links:  []api.Link{link(1, 0, 5, 0), link(1, 1, 5, 1), link(9, 0, 1, 0), link(9, 1, 1, 0), link(9, 1, 1, 1), link(9, 2, 1, 1)},
		Groups: []api.Group{{Name: "port", Parts: parts(1, 0, 5, 0)}, {Name: "starboard", Parts: parts(1, 1, 5, 1)}},
	}
}

func TestCheck(t *testing.T) {
	same(t, "valid", []api.Errno{design.Check(cooled()), design.Check(api.Design{}), design.Check(api.Design{Parts: parts(1, 0, 9, 63)})}, []api.Errno{0, 0, 0})
	big := api.Design{}
	for i := range api.MaxParts {
		big.Parts = append(big.Parts, part(9, i))
	}
	for i := range api.MaxLinks {
		big.Links = append(big.Links, link(9, i/30, 9, 2+i%30))
	}
	for i := range api.MaxGroups {
		big.Groups = append(big.Groups, api.Group{Name: string(rune('a' + i)), Parts: big.Parts})
	}
	same(t, "as much as can be", design.Check(big), api.OK)
	for i, x := range []struct {
		change func(d *api.Design)
		want   api.Errno
	}{
		{func(d *api.Design) { d.Parts = make([]api.Part, 41) }, api.ErrLimit}, {func(d *api.Design) { d.Links = make([]api.Link, 61) }, api.ErrLimit}, {func(d *api.Design) { d.Groups = make([]api.Group, 7) }, api.ErrLimit}, {func(d *api.Design) { d.Parts[0].Kind = 0 }, api.ErrDesign}, {func(d *api.Design) { d.Parts[6].Kind = 10 }, api.ErrDesign}, {func(d *api.Design) { d.Parts = append(d.Parts, part(9, 64)) }, api.ErrDesign}, {func(d *api.Design) { d.Parts = append(parts(1, -1), d.Parts...) }, api.ErrDesign},
		{func(d *api.Design) { d.Parts = append(d.Parts, part(9, 2)) }, api.ErrDesign}, {func(d *api.Design) { d.Parts = append(d.Parts, part(9, 1)) }, api.ErrDesign}, {func(d *api.Design) { d.Links[5].To = part(1, 2) }, api.ErrDesign}, {func(d *api.Design) { d.Links[5].From = part(9, 3) }, api.ErrDesign}, {func(d *api.Design) { d.Links[5].To = part(9, 2) }, api.ErrDesign}, {func(d *api.Design) { d.Links[5] = d.Links[4] }, api.ErrDesign}, {func(d *api.Design) { d.Links[0], d.Links[1] = d.Links[1], d.Links[0] }, api.ErrDesign}, {func(d *api.Design) { d.Links[3], d.Links[4] = d.Links[4], d.Links[3] }, api.ErrDesign},
		{func(d *api.Design) { d.Groups[0].Name = "" }, api.ErrDesign}, {func(d *api.Design) { d.Groups[0].Name = "Port" }, api.ErrDesign}, {func(d *api.Design) { d.Groups[1].Name = "port" }, api.ErrDesign}, {func(d *api.Design) { d.Groups[1].Parts = nil }, api.ErrDesign}, {func(d *api.Design) { d.Groups[1].Parts = parts(1, 2) }, api.ErrDesign}, {func(d *api.Design) { d.Groups[1].Parts = parts(5, 1, 1, 1) }, api.ErrDesign}, {func(d *api.Design) { d.Groups[1].Parts = parts(1, 1, 1, 1) }, api.ErrDesign},
	} {
		d := cooled()
		x.change(&d)
		name := fmt.Sprint(i)
		same(t, name, design.Check(d), x.want)
		same(t, name, design.Falls(d, parts(9, 2, 9, 0, 9, 2)), parts(9, 0, 9, 2))
		chain, ok := design.Chain(d, part(9, 0), part(9, 0))
		same(t, name, []any{chain, ok, design.Proves(d, parts(9, 0)), design.Common(d, 0, 1), design.Independent(d)}, []any{[]int{}, false, false, []int{}, false})
	}
}

func TestLists(t *testing.T) {
	same(t, "Sorted", []bool{design.Sorted(nil), design.Sorted(parts(1, 0, 1, 63, 2, 0, 9, 63)), design.Sorted(parts(1, 1, 1, 1)), design.Sorted(parts(2, 0, 1, 0)), design.Sorted(parts(0, 0)), design.Sorted(parts(10, 0)), design.Sorted(parts(1, 64)), design.Sorted(parts(1, -1))}, []bool{true, true, false, false, false, false, false, false})
	same(t, "Has", []bool{design.Has(parts(7, 7, -1, 5), part(-1, 5)), design.Has(parts(7, 7), part(7, 6)), design.Has(nil, part(0, 0))}, []bool{true, false, false})
	same(t, "Union", design.Union(parts(9, 1, -3, 99, 9, 1), parts(1, 5, 9, 0)), parts(-3, 99, 1, 5, 9, 0, 9, 1))
	same(t, "Union of nothing", design.Union(nil, nil), []int{})
	a := append(make([]api.Part, 0, 9), parts(5, 5)...)
	design.Union(a, parts(1, 1))
	same(t, "the argument", a[:2], parts(5, 5, 0, 0))
}

func TestFalls(t *testing.T) {
	for _, x := range []struct{ broken, want []api.Part }{{nil, nil}, {parts(9, 0), parts(1, 0, 5, 0, 9, 0)}, {parts(9, 1), parts(1, 0, 1, 1, 5, 0, 5, 1, 9, 1)}, {parts(5, 1, 5, 1), parts(5, 1)}, {parts(8, 7, 9, 2, 0, -5), parts(0, -5, 1, 1, 5, 1, 8, 7, 9, 2)}} {
		same(t, fmt.Sprint(x.broken), design.Falls(cooled(), x.broken), append([]api.Part{}, x.want...))
	}
}

func TestChain(t *testing.T) {
	for _, x := range []struct {
		from, to api.Part
		want     []api.Part
		ok       bool
	}{{part(9, 1), part(5, 0), parts(9, 1, 1, 0, 5, 0), true}, {part(9, 0), part(9, 0), parts(9, 0), true}, {part(9, 0), part(5, 1), nil, false}, {part(5, 0), part(9, 0), nil, false}, {part(7, 7), part(7, 7), nil, false}, {part(9, 0), part(7, 7), nil, false}} {
		got, ok := design.Chain(cooled(), x.from, x.to)
		same(t, fmt.Sprint(x), []any{got, ok}, []any{append([]api.Part{}, x.want...), x.ok})
	}
	ways := api.Design{Parts: parts(9, 0, 9, 1, 9, 2, 9, 3, 9, 4), Links: []api.Link{link(9, 0, 9, 1), link(9, 0, 9, 2), link(9, 0, 9, 3), link(9, 1, 9, 0), link(9, 1, 9, 2), link(9, 2, 9, 4), link(9, 3, 9, 4)}}
	got, ok := design.Chain(ways, part(9, 0), part(9, 4))
	same(t, "the least of the shortest", []any{got, ok}, []any{parts(9, 0, 9, 2, 9, 4), true})
}

func TestProves(t *testing.T) {
	for _, x := range []struct {
		chain []api.Part
		want  bool
	}{{parts(9, 1, 1, 0, 5, 0), true}, {parts(5, 0), true}, {nil, false}, {parts(7, 7), false}, {parts(9, 1, 5, 0), false}, {parts(1, 0, 9, 1), false}, {parts(9, 1, 9, 1), false}} {
		same(t, fmt.Sprint(x.chain), design.Proves(cooled(), x.chain), x.want)
	}
}

func TestCommon(t *testing.T) {
	d := cooled()
	same(t, "Common", design.Common(d, 0, 1), parts(9, 1))
	same(t, "Independent", design.Independent(d), false)
	for _, x := range [][2]int{{0, 0}, {-1, 0}, {0, 2}, {2, 0}} {
		same(t, fmt.Sprint(x), design.Common(d, x[0], x[1]), []int{})
	}
	d.Links = slices.Delete(d.Links, 3, 4)
	same(t, "apart", []any{design.Common(d, 0, 1), design.Independent(d)}, []any{[]int{}, true})
	d.Groups[1].Parts = parts(1, 1, 5, 0, 5, 1)
	same(t, "a part of both groups", []any{design.Common(d, 1, 0), design.Independent(d)}, []any{parts(1, 0, 5, 0, 9, 0), false})
	same(t, "no groups", design.Independent(api.Design{}), true)
}

func TestFallsAndChains(t *testing.T) {
	r := rand.New(rand.NewSource(16))
	for range 300 {
		d := api.Design{}
		for i := range 7 {
			d.Parts = append(d.Parts, part(9, i))
			for k := range 7 {
				if i != k && r.Intn(6) == 0 {
					d.Links = append(d.Links, link(9, i, 9, k))
				}
			}
		}
		from := d.Parts[r.Intn(7)]
		falls := design.Falls(d, []api.Part{from})
		if again := design.Falls(d, falls); !slices.Equal(again, falls) {
			t.Fatalf("%v: %v, then %v", d, falls, again)
		}
		more := design.Falls(d, []api.Part{from, d.Parts[r.Intn(7)]})
		for _, to := range d.Parts {
			chain, ok := design.Chain(d, from, to)
			if ok != design.Has(falls, to) || ok && !design.Proves(d, chain) || design.Has(falls, to) && !design.Has(more, to) {
				t.Fatalf("%v: from %v to %v: %v", d, from, to, chain)
			}
			if best := shortest(d, []api.Part{from}, to, len(chain)); ok && !slices.Equal(chain, best) {
				t.Fatalf("%v: from %v to %v: %v, not %v", d, from, to, chain, best)
			}
		}
	}
}

// shortest returns the first chain of a length, trying parts in their order; nothing if there is a shorter one.
func shortest(d api.Design, chain []api.Part, to api.Part, length int) []api.Part {
	if at := chain[len(chain)-1]; at == to || len(chain) >= length {
		if at == to && len(chain) == length {
			return chain
		}
		return nil
	}
	for _, p := range d.Parts {
		if next := append(slices.Clone(chain), p); design.Proves(d, next[len(next)-2:]) {
			if found := shortest(d, next, to, length); found != nil {
				return found
			}
		}
	}
	return nil
}
