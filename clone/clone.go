// Package clone copies values of package api, so that results share no memory with arguments.
package clone

import (
	"slices"

	"seismonet/api"
)

// Each returns a list of the copies of the elements of a list; f copies one.
func Each[T any](l []T, f func(T) T) []T {
	var copies []T
	for _, x := range l {
		copies = append(copies, f(x))
	}
	return copies
}

// Stage returns a copy of a stage.
func Stage(s api.Stage) api.Stage {
	s.Taps = slices.Clone(s.Taps)
	return s
}

// Epoch returns a copy of an epoch.
func Epoch(e api.Epoch) api.Epoch {
	e.Response.Stages = Each(e.Response.Stages, Stage)
	return e
}

// Channel returns a copy of a channel.
func Channel(c api.Channel) api.Channel {
	c.Epochs = Each(c.Epochs, Epoch)
	return c
}

// Inventory returns a copy of an inventory.
func Inventory(inv api.Inventory) api.Inventory {
	return api.Inventory{Channels: Each(inv.Channels, Channel)}
}

// Change returns a copy of a change.
func Change(c api.Change) api.Change {
	c.Epoch = Epoch(c.Epoch)
	return c
}

// History returns a copy of a history.
func History(h api.History) api.History {
	return api.History{Base: Inventory(h.Base), Changes: Each(h.Changes, Change)}
}

// Solution returns a copy of a solution.
func Solution(s api.Solution) api.Solution {
	s.Picks = slices.Clone(s.Picks)
	return s
}

// Event returns a copy of an event.
func Event(e api.Event) api.Event {
	e.Solution = Solution(e.Solution)
	return e
}

// Alert returns a copy of an alert.
func Alert(a api.Alert) api.Alert {
	a.Event = Event(a.Event)
	return a
}

// Bulletin returns a copy of a bulletin.
func Bulletin(b api.Bulletin) api.Bulletin {
	b.Event = Event(b.Event)
	return b
}

// Version returns a copy of a version.
func Version(v api.Version) api.Version {
	v.Event = Event(v.Event)
	return v
}

// Entry returns a copy of an entry.
func Entry(e api.Entry) api.Entry {
	return api.Entry{Versions: Each(e.Versions, Version)}
}

// Catalogue returns a copy of a catalogue.
func Catalogue(c api.Catalogue) api.Catalogue {
	return api.Catalogue{Entries: Each(c.Entries, Entry)}
}

// Batch returns a copy of a batch.
func Batch(b api.Batch) api.Batch {
	return api.Batch{Picks: slices.Clone(b.Picks), Events: Each(b.Events, Event), Left: slices.Clone(b.Left)}
}

// Table returns a copy of a table.
func Table(t api.Table) api.Table {
	t.Low, t.High = slices.Clone(t.Low), slices.Clone(t.High)
	return t
}

// Settings returns a copy of settings.
func Settings(s api.Settings) api.Settings {
	s.Association.Table = Table(s.Association.Table)
	s.Scale.Correction = Table(s.Scale.Correction)
	return s
}

// Progress returns a copy of a progress.
func Progress(p api.Progress) api.Progress {
	return api.Progress{Settings: Settings(p.Settings), Inventory: Inventory(p.Inventory), Batches: Each(p.Batches, Batch)}
}

// Record returns a copy of a record.
func Record(r api.Record) api.Record {
	r.Samples = slices.Clone(r.Samples)
	return r
}

// Store returns a copy of a store.
func Store(s api.Store) api.Store {
	s.Records = Each(s.Records, Record)
	return s
}

// Archive returns a copy of an archive.
func Archive(a api.Archive) api.Archive {
	return api.Archive{Stores: Each(a.Stores, Store)}
}

// Setup returns a copy of a setup.
func Setup(u api.Setup) api.Setup {
	u.Settings = Settings(u.Settings)
	u.Policy.Rules = slices.Clone(u.Policy.Rules)
	return u
}

// Centre returns a copy of a centre.
func Centre(c api.Centre) api.Centre {
	return api.Centre{
		Setup:     Setup(c.Setup),
		Now:       c.Now,
		History:   History(c.History),
		Archive:   Archive(c.Archive),
		Progress:  Progress(c.Progress),
		Catalogue: Catalogue(c.Catalogue),
		Alerts:    Each(c.Alerts, Alert),
		Bulletins: Each(c.Bulletins, Bulletin),
	}
}
