// Package example has a ship to try things with.
package example

import "dynpos/api"

// Vessel returns a ship with two buses; each has a generator, a thruster at the bow and one at the stern, and all that has to be cooled has a cooling of its own. Three references have two causes.
func Vessel() api.Vessel {
	return api.Vessel{
		Hull:       hull(),
		Ship:       ship(),
		Board:      board(),
		Table:      api.Table{Start: 90, Stop: 40, Delay: 5},
		Design:     design(),
		References: []api.Reference{{Cause: 0, Speed: 50, Stale: 3}, {Cause: 1, Speed: 50, Stale: 3}, {Cause: 1, Speed: 50, Stale: 3}},
		Gains:      api.Gains{Near: 20, Sum: 1, Calm: 50, Point: 100, Drift: 1, Still: 200, MostSum: 10000, MostForce: 100, MostYaw: 1000},
		Target:     api.Target{Place: api.Point{X: 1000, Y: -500}, Heading: 300},
		Delay:      2,
		Operation:  api.Operation{Name: "dive", Class: api.LevelGreen, Circle: api.Circle{Place: api.Point{X: 1000, Y: -500}, Yellow: 1000, Red: 2000}, Drift: 50},
		Sequence:   api.Sequence{Stages: []api.Stage{{Name: "call", Ticks: 1, Tries: 1}, {Name: "lift", Ticks: 2, Tries: 2, Needs: []int{0}}, {Name: "leave", Ticks: 1, Tries: 1, Needs: []int{1}}}},
	}
}

// hull returns a hull that wind and current push from where they come.
func hull() api.Hull {
	along := []int{-100, -87, -50, 0, 50, 87, 100, 87, 50, 0, -50, -87}
	across := []int{0, -50, -87, -100, -87, -50, 0, 50, 87, 100, 87, 50}
	around := []int{0, 10, 10, 0, -10, -10, 0, 10, 10, 0, -10, -10}
	c := api.Curve{Surge: along, Sway: across, Yaw: around}
	return api.Hull{Wind: c, Current: c, Wave: c, Mass: 5000, Inertia: 2000000, Drag: 50, Spin: 20000}
}

// ship returns a ship with two azimuth thrusters at the bow, and two at the stern.
func ship() api.Ship {
	s := api.Ship{Bow: 40, Stern: 40}
	for i := range 4 {
		s.Thrusters = append(s.Thrusters, api.Thruster{Kind: api.KindAzimuth, Station: i / 2, Max: 200, Rate: 200, Cost: 5})
	}
	return s
}

// board returns a switchboard with two buses, a tie, and for each bus a generator, two thrusters, and lights; the last consumer can be fed by both buses.
func board() api.Board {
	b := api.Board{Buses: 2, Breakers: []api.Breaker{{Kind: api.BreakerTie, A: 0, B: 1}}, Phase: 50, Frequency: 20}
	for bus := range 2 {
		b.Breakers = append(b.Breakers, api.Breaker{Kind: api.BreakerSource, A: bus, B: bus})
		b.Sources = append(b.Sources, api.Source{Rating: 600, Least: 50, Start: 2})
	}
	for i := range 4 {
		b.Breakers = append(b.Breakers, api.Breaker{Kind: api.BreakerConsumer, A: i % 2, B: i})
		b.Consumers = append(b.Consumers, api.Consumer{Load: 200, Least: 50, Preference: 1, Thruster: i})
	}
	b.Breakers = append(b.Breakers, api.Breaker{Kind: api.BreakerConsumer, A: 0, B: 4}, api.Breaker{Kind: api.BreakerConsumer, A: 1, B: 4})
	b.Consumers = append(b.Consumers, api.Consumer{Load: 50, Least: 20, Thruster: -1})
	return b
}

// design returns the parts of both halves of the ship, and what they depend on.
func design() api.Design {
	part := func(kind, number int) api.Part { return api.Part{Kind: kind, Number: number} }
	return api.Design{
		Parts: []api.Part{
			part(api.PartSource, 0), part(api.PartSource, 1), part(api.PartBus, 0), part(api.PartBus, 1),
			part(api.PartThruster, 0), part(api.PartThruster, 1), part(api.PartThruster, 2), part(api.PartThruster, 3),
			part(api.PartReference, 0), part(api.PartAuxiliary, 0), part(api.PartAuxiliary, 1), part(api.PartAuxiliary, 2),
		},
		Links: []api.Link{
			{From: part(api.PartAuxiliary, 0), To: part(api.PartSource, 0)},
			{From: part(api.PartAuxiliary, 1), To: part(api.PartSource, 1)},
		},
		Groups: []api.Group{
			{Name: "port", Parts: []api.Part{part(api.PartSource, 0), part(api.PartBus, 0), part(api.PartThruster, 0), part(api.PartThruster, 2)}},
			{Name: "starboard", Parts: []api.Part{part(api.PartSource, 1), part(api.PartBus, 1), part(api.PartThruster, 1), part(api.PartThruster, 3)}},
		},
	}
}
