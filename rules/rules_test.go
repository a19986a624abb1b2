// Package rules tests the rules of the document that apply to all functions: none panics, none changes its arguments, results depend on the arguments alone, and are zero beside an error.
package rules

import (
	"fmt"
	"maps"
	"math"
	"math/rand"
	"reflect"
	"slices"
	"testing"

	"dynpos/api"
	"dynpos/drill"
	"dynpos/example"
	"dynpos/voyage"
)

// tries is how often each function is called.
const tries = 200

// numbers are numbers at and around the limits, and far beyond them.
var numbers = []int{math.MinInt, math.MinInt + 1, -1 << 40, -1000000001, -5001, -3600, -2, -1, 0, 1, 2, 3, 4, 5, 6, 7, 8, 9, 10, 16, 24, 40, 60, 63, 64, 100, 200, 201, 400, 600, 1000, 1800, 3599, 3600, 5000, 6000, 50000, 100000000, 1 << 30, 1 << 31, 1<<31 + 1, 1000000000, 1000000000000000000, math.MaxInt - 1, math.MaxInt}

// maker makes arguments: mostly samples of a voyage with a few changes.
type maker struct {
	*rand.Rand
	samples map[reflect.Type][]reflect.Value
}

// keep keeps a value and its parts as samples of their types.
func (m *maker) keep(v reflect.Value, depth int) {
	if depth > 6 {
		return
	}
	if l := m.samples[v.Type()]; len(l) < 60 {
		m.samples[v.Type()] = append(l, v)
	}
	switch v.Kind() {
	case reflect.Struct:
		for i := range v.NumField() {
			m.keep(v.Field(i), depth+1)
		}
	case reflect.Slice:
		for i := range min(v.Len(), 3) {
			m.keep(v.Index(i), depth+1)
		}
	}
}

// copied returns a deep copy.
func copied(v reflect.Value) reflect.Value {
	c := reflect.New(v.Type()).Elem()
	switch {
	case v.Kind() == reflect.Struct:
		for i := range v.NumField() {
			c.Field(i).Set(copied(v.Field(i)))
		}
	case v.Kind() == reflect.Slice && !v.IsNil():
		c.Set(reflect.MakeSlice(v.Type(), v.Len(), v.Len()))
		for i := range v.Len() {
			c.Index(i).Set(copied(v.Index(i)))
		}
	default:
		c.Set(v)
	}
	return c
}

// change changes something somewhere in a value.
func (m *maker) change(v reflect.Value) {
	switch v.Kind() {
	case reflect.Int:
		if m.Intn(3) == 0 {
			v.SetInt(v.Int() + int64(m.Intn(5)-2))
		} else {
			v.SetInt(int64(numbers[m.Intn(len(numbers))]))
		}
	case reflect.Uint64:
		v.SetUint(m.Uint64())
	case reflect.Uint8:
		v.SetUint(uint64(m.Intn(256)))
	case reflect.Bool:
		v.SetBool(!v.Bool())
	case reflect.String:
		v.SetString(v.String()[m.Intn(len(v.String())+1):] + "tick 5\n= 3 1 2\n"[:m.Intn(16)])
	case reflect.Struct:
		m.change(v.Field(m.Intn(v.NumField())))
	case reflect.Array:
		m.change(v.Index(m.Intn(v.Len())))
	case reflect.Slice:
		m.changeList(v)
	}
}

// changeList takes an element out of a list, adds one, or changes one.
func (m *maker) changeList(v reflect.Value) {
	switch n, what := v.Len(), m.Intn(8); {
	case what == 0 && n > 0:
		i := m.Intn(n)
		v.Set(reflect.AppendSlice(v.Slice(0, i), v.Slice(i+1, n)))
	case what == 1 && n < 70:
		v.Set(reflect.Append(v, m.make(v.Type().Elem())))
	case n > 0:
		m.change(v.Index(m.Intn(n)))
	}
}

// make makes a value of a type.
func (m *maker) make(t reflect.Type) reflect.Value {
	if l := m.samples[t]; len(l) > 0 && m.Intn(20) > 0 {
		v := copied(l[m.Intn(len(l))])
		for range m.Intn(3) {
			m.change(v)
		}
		return v
	}
	v := reflect.New(t).Elem()
	switch t.Kind() {
	case reflect.Slice:
		v.Set(reflect.MakeSlice(t, m.Intn(6), 6))
		for i := range v.Len() {
			v.Index(i).Set(m.make(t.Elem()))
		}
	case reflect.Struct:
		for i := range t.NumField() {
			v.Field(i).Set(m.make(t.Field(i).Type))
		}
	default:
		m.change(v)
	}
	return v
}

// samples returns a maker with samples of a voyage.
func samples() *maker {
	m := &maker{Rand: rand.New(rand.NewSource(33)), samples: map[reflect.Type][]reflect.Value{}}
	v := example.Vessel()
	d := api.Drill{Ticks: 9, Weather: api.Weather{Wind: api.Flow{From: 300, Speed: 1000}}, Faults: []api.Fault{{Time: 6, Kind: api.FaultBegin, Part: api.Part{Kind: api.PartAuxiliary}}}}
	s, _ := drill.Ready(v)
	for _, in := range drill.Inputs(v, s, d) {
		m.keep(reflect.ValueOf(in), 0)
		m.keep(reflect.ValueOf(s), 0)
		s, _ = voyage.Tick(v, s, in)
	}
	for _, x := range []any{v, d, s} {
		m.keep(reflect.ValueOf(x), 0)
	}
	return m
}

// text returns what values are.
func text(l []reflect.Value) string {
	s := ""
	for _, v := range l {
		s += fmt.Sprintf("%+v;", v.Interface())
	}
	return s
}

// speaking are the functions whose chapters say something else than zero beside an error or false.
var speaking = []string{"monitor.Run", "network.Accept", "restore.Run", "script.Parse"}

// failed reports whether the last result is an error, or false beside other results.
func failed(results []reflect.Value) bool {
	last := results[len(results)-1]
	return len(results) > 1 && (last.Type() == reflect.TypeFor[api.Errno]() && last.Int() != 0 || last.Kind() == reflect.Bool && !last.Bool())
}

// zero reports whether a result is zero, or an empty list.
func zero(v reflect.Value) bool {
	return v.IsZero() || v.Kind() == reflect.Slice && v.Len() == 0
}

// try calls a function twice with equal arguments.
func try(t *testing.T, name string, f reflect.Value, first, second []reflect.Value) {
	t.Helper()
	before := text(first)
	defer func() {
		if x := recover(); x != nil {
			t.Errorf("%s panics: %v with %s", name, x, before)
		}
	}()
	results := f.Call(first)
	if a, b := text(results), text(f.Call(second)); a != b {
		t.Errorf("%s: %s, and then %s, of %s", name, a, b, before)
	}
	for _, r := range results[:len(results)-1] {
		if failed(results) && !zero(r) && !slices.Contains(speaking, name) {
			t.Errorf("%s: %s of %s", name, text(results), before)
		}
	}
	if text(first) != before {
		t.Errorf("%s changes its arguments: %s", name, before)
	}
}

func TestRules(t *testing.T) {
	m := samples()
	for _, name := range slices.Sorted(maps.Keys(functions)) {
		f := reflect.ValueOf(functions[name])
		count := tries
		if name == "drill.Least" {
			count /= 10 // it plays many drills each time
		}
		for range count {
			var first, second []reflect.Value
			for i := range f.Type().NumIn() {
				x := m.make(f.Type().In(i))
				first, second = append(first, x), append(second, copied(x))
			}
			try(t, name, f, first, second)
		}
	}
}
