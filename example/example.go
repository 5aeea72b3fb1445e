// Package example is a small network, for tests and for trying out a centre: five stations within some metres of ground in which signals take 30 milliseconds for a metre.
package example

import (
	"seismonet/api"
	"seismonet/geometry"
)

const (
	slowness = 30000 // microseconds for a metre
	rate     = 100   // samples per second
	length   = 400   // samples of a record
	reach    = 60    // metres
	burst    = 5     // samples of a signal
)

// Setup returns how the centre of the network works.
func Setup() api.Setup {
	times := api.Table{Step: 1}
	correction := api.Table{Step: 1}
	for k := range reach {
		times.Low, times.High = append(times.Low, slowness*k), append(times.High, slowness*k+1000)
		correction.Low, correction.High = append(correction.Low, k), append(correction.High, k+5)
	}
	association := api.Association{
		Region: api.Box{High: api.Position{X: 30, Y: 30, Z: 4}}, Table: times, Cap: 2 * api.Second,
		Tolerance: 100000, Span: 2 * api.Second, Limit: 100000, Least: 3,
	}
	return api.Setup{
		Settings: api.Settings{Association: association, Scale: api.Scale{Correction: correction, Den: 1}, Tolerance: 50000},
		Picking:  api.Picking{Detector: api.Detector{Short: 2, Long: 20, On: 400, Off: 200}, Back: 10, Level: 100, Floor: 50},
		Joining:  1000,
		Policy: api.Policy{
			Rules: []api.Rule{
				{Magnitude: 150, Picks: 3, Misfit: api.Second, Window: 60 * api.Second},
				{Magnitude: 350, Picks: 4, Misfit: api.Second, Window: 60 * api.Second},
			},
			Distance: 40000, Every: 5 * api.Second,
		},
	}
}

// Source returns the identifier of a station of the network.
func Source(i int) api.SourceID {
	return api.SourceID{Network: "XX", Station: "S" + string([]byte{byte('0' + i)}), Channel: "HHZ"}
}

func places() []api.Position {
	return []api.Position{{}, {X: 30}, {Y: 30}, {X: 30, Y: 30}, {X: 15, Y: 15}}
}

// Inventory returns the metadata of the stations, from 0 to 1000 seconds.
func Inventory() api.Inventory {
	var inv api.Inventory
	for i, p := range places() {
		e := api.Epoch{From: 0, To: 1000 * api.Second, Rate: api.Rate{Num: rate, Den: 1}, Position: p}
		inv.Channels = append(inv.Channels, api.Channel{Source: Source(i), Epochs: []api.Epoch{e}})
	}
	return inv
}

// Records returns a record of each station with the signal of an origin. It begins a second or two ahead of the origin.
func Records(x api.Position, time, amplitude int) []api.Record {
	start := max(time/api.Second-1, 0) * api.Second
	var l []api.Record
	for i, p := range places() {
		r := api.Record{Source: Source(i), Start: start, Rate: api.Rate{Num: rate, Den: 1}, Samples: make([]int, length)}
		onset := (time + slowness*geometry.Floor(geometry.Square(x, p)) - start) * rate / api.Second
		for k := range r.Samples {
			r.Samples[k] = 1 - k%2*2
			if k >= onset && k < onset+burst {
				r.Samples[k] *= amplitude
			}
		}
		l = append(l, r)
	}
	return l
}
