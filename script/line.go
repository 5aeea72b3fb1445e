package script

import (
	"strconv"
	"strings"

	"seismonet/api"
	"seismonet/common"
	"seismonet/record"
	"seismonet/source"
)

const farthest = 1 << 60

// layout tells what the line of a kind contains behind its word: a source, numbers and a person, in this order.
type layout struct {
	word      string
	hasSource bool
	numbers   func(o *api.Op) []*int
	hasBy     bool
}

func recordNumbers(o *api.Op) []*int {
	r := &o.Record
	return []*int{&r.Start, &r.First, &r.Rate.Num, &r.Rate.Den, &r.Error, &r.Run, &r.Seq}
}

func placeNumbers(o *api.Op) []*int {
	return []*int{&o.From, &o.Position.X, &o.Position.Y, &o.Position.Z}
}

func idNumber(o *api.Op) []*int {
	return []*int{&o.ID}
}

// layoutOf returns the layout of the lines of a kind.
func layoutOf(kind int) (layout, bool) {
	switch kind {
	case api.OpRecord:
		return layout{word: "record", hasSource: true, numbers: recordNumbers}, true
	case api.OpPlace:
		return layout{word: "place", hasSource: true, numbers: placeNumbers}, true
	case api.OpEnd:
		return layout{word: "end", hasSource: true, numbers: func(o *api.Op) []*int { return []*int{&o.From, &o.To} }}, true
	case api.OpTick:
		return layout{word: "tick", numbers: func(o *api.Op) []*int { return []*int{&o.Now} }}, true
	case api.OpReview:
		return layout{word: "review", numbers: idNumber, hasBy: true}, true
	case api.OpDelete:
		return layout{word: "delete", numbers: idNumber, hasBy: true}, true
	case api.OpMerge:
		return layout{word: "merge", numbers: func(o *api.Op) []*int { return []*int{&o.ID, &o.Into} }, hasBy: true}, true
	case api.OpRelease:
		return layout{word: "release", numbers: idNumber, hasBy: true}, true
	case api.OpRecover:
		return layout{word: "recover", numbers: func(o *api.Op) []*int { return nil }}, true
	}
	return layout{}, false
}

// sourceOf returns where an operation has the source of its line.
func sourceOf(o *api.Op) *api.SourceID {
	if o.Kind == api.OpRecord {
		return &o.Record.Source
	}
	return &o.Source
}

func isZero(o api.Op) bool {
	return record.Same(o.Record, api.Record{}) && o.Source == (api.SourceID{}) && o.From == 0 && o.To == 0 && o.Position == (api.Position{}) &&
		o.Now == 0 && o.ID == 0 && o.Into == 0 && o.By == ""
}

func validSamples(o api.Op) bool {
	if o.Kind == api.OpRecord && !common.Within(len(o.Record.Samples), 1, api.MaxSamples) {
		return false
	}
	for _, n := range o.Record.Samples {
		if !common.Within(n, -farthest, farthest) {
			return false
		}
	}
	return true
}

// Valid reports whether an operation is valid.
func Valid(o api.Op) bool {
	f, ok := layoutOf(o.Kind)
	if !ok || !validSamples(o) || f.hasSource && !source.Valid(*sourceOf(&o)) || f.hasBy && !common.IsPerson(o.By) {
		return false
	}
	// All that the line contains is taken out of this copy; the rest must be zero.
	if f.hasSource {
		*sourceOf(&o) = api.SourceID{}
	}
	if f.hasBy {
		o.By = ""
	}
	if o.Kind == api.OpRecord {
		o.Record.Samples = nil
	}
	for _, n := range f.numbers(&o) {
		if !common.Within(*n, -farthest, farthest) {
			return false
		}
		*n = 0
	}
	return isZero(o)
}

// Line returns the line of an operation.
func Line(o api.Op) (string, api.Errno) {
	if !Valid(o) {
		return "", api.ErrInvalid
	}
	f, _ := layoutOf(o.Kind)
	words := []string{f.word}
	if f.hasSource {
		text, _ := source.Format(*sourceOf(&o))
		words = append(words, text)
	}
	for _, n := range f.numbers(&o) {
		words = append(words, strconv.Itoa(*n))
	}
	for _, n := range o.Record.Samples {
		words = append(words, strconv.Itoa(n))
	}
	if f.hasBy {
		words = append(words, o.By)
	}
	return strings.Join(words, " "), api.OK
}

// fill returns a function that makes an operation of a kind of the words behind the first one, as far as they can be read.
func fill(kind int) func(words []string) (api.Op, bool) {
	return func(words []string) (api.Op, bool) {
		o := api.Op{Kind: kind}
		f, ok := layoutOf(kind)
		next := func() string {
			if len(words) == 0 {
				ok = false
				return ""
			}
			w := words[0]
			words = words[1:]
			return w
		}
		number := func() int {
			n, err := strconv.Atoi(next())
			if err != nil {
				ok = false
			}
			return n
		}
		if f.hasSource {
			*sourceOf(&o), _ = source.Parse(next())
		}
		for _, n := range f.numbers(&o) {
			*n = number()
		}
		for kind == api.OpRecord && len(words) > 0 {
			o.Record.Samples = append(o.Record.Samples, number())
		}
		if f.hasBy {
			o.By = next()
		}
		return o, ok && len(words) == 0
	}
}

// ParseLine returns the valid operation of a line.
func ParseLine(s string) (api.Op, api.Errno) {
	read := map[string]func(words []string) (api.Op, bool){
		"record":  fill(api.OpRecord),
		"place":   fill(api.OpPlace),
		"end":     fill(api.OpEnd),
		"tick":    fill(api.OpTick),
		"review":  fill(api.OpReview),
		"delete":  fill(api.OpDelete),
		"merge":   fill(api.OpMerge),
		"release": fill(api.OpRelease),
		"recover": fill(api.OpRecover),
	}
	words := strings.Split(s, " ")
	f, ok := read[words[0]]
	if !ok {
		return api.Op{}, api.ErrFormat
	}
	o, ok := f(words[1:])
	// Writing the line again refuses all that is written in another way.
	if again, e := Line(o); !ok || e != api.OK || again != s {
		return api.Op{}, api.ErrFormat
	}
	return o, api.OK
}

// Format returns the text of a list.
func Format(l []api.Op) (string, api.Errno) {
	if len(l) > api.MaxOps {
		return "", api.ErrLimit
	}
	var b strings.Builder
	for _, o := range l {
		line, e := Line(o)
		if e != api.OK {
			return "", e
		}
		b.WriteString(line)
		b.WriteByte('\n')
	}
	if b.Len() > api.MaxText {
		return "", api.ErrLimit
	}
	return b.String(), api.OK
}

// Parse returns the list of a text, and the line of an error.
func Parse(s string) ([]api.Op, int, api.Errno) {
	if len(s) > api.MaxText {
		return nil, 0, api.ErrLimit
	}
	var l []api.Op
	for s != "" {
		line, rest, ended := strings.Cut(s, "\n")
		o, e := ParseLine(line)
		if !ended || e != api.OK {
			return nil, len(l) + 1, api.ErrFormat
		}
		l = append(l, o)
		s = rest
	}
	if len(l) > api.MaxOps {
		return nil, api.MaxOps + 1, api.ErrLimit
	}
	return l, 0, api.OK
}
