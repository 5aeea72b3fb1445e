package inventory

import (
	"strconv"
	"strings"

	"seismonet/api"
	"seismonet/rate"
	"seismonet/response"
	"seismonet/source"
	"seismonet/utc"
)

const maxDigits = 9

// Format returns the text of an inventory.
func Format(leaps []int, inv api.Inventory) (string, api.Errno) {
	if !utc.Valid(leaps) || !Valid(inv) {
		return "", api.ErrInvalid
	}
	var b strings.Builder
	for _, c := range inv.Channels {
		text, _ := source.Format(c.Source)
		writeLine(&b, "channel", text)
		for _, e := range c.Epochs {
			writeLine(&b, epochWords(leaps, e)...)
			for _, s := range e.Response.Stages {
				writeLine(&b, stageWords(s)...)
			}
		}
		if b.Len() > api.MaxText {
			return "", api.ErrLimit
		}
	}
	return b.String(), api.OK
}

func writeLine(b *strings.Builder, words ...string) {
	b.WriteString(strings.Join(words, " "))
	b.WriteByte('\n')
}

func numberWords(numbers ...int) []string {
	var words []string
	for _, n := range numbers {
		words = append(words, strconv.Itoa(n))
	}
	return words
}

func epochWords(leaps []int, e api.Epoch) []string {
	from, _ := utc.Format(leaps, e.From)
	to, _ := utc.Format(leaps, e.To)
	words := []string{"epoch", from, to, strconv.Itoa(e.Rate.Num) + "/" + strconv.Itoa(e.Rate.Den)}
	return append(words, numberWords(e.Position.X, e.Position.Y, e.Position.Z)...)
}

func stageWords(s api.Stage) []string {
	switch s.Kind {
	case api.StageGain:
		return append([]string{"gain"}, numberWords(s.Num[0], s.Den[0])...)
	case api.StageSection:
		words := append([]string{"section"}, numberWords(s.Num[:]...)...)
		return append(words, numberWords(s.Den[:]...)...)
	}
	words := append([]string{"filter"}, numberWords(s.Factor, s.Shift)...)
	return append(words, numberWords(s.Taps...)...)
}

// parser builds the inventory of the lines that it has read.
type parser struct {
	leaps []int
	inv   api.Inventory
}

// Parse returns the inventory of a text, and the line of an error.
func Parse(leaps []int, text string) (inv api.Inventory, line int, e api.Errno) {
	if !utc.Valid(leaps) {
		return api.Inventory{}, 0, api.ErrInvalid
	}
	if len(text) > api.MaxText {
		return api.Inventory{}, 0, api.ErrLimit
	}
	p := &parser{leaps: leaps}
	for number := 1; text != ""; number++ {
		line, rest, ended := strings.Cut(text, "\n")
		if !ended {
			return api.Inventory{}, number, api.ErrFormat
		}
		if e := p.line(line); e != api.OK {
			return api.Inventory{}, number, e
		}
		text = rest
	}
	if !Valid(p.inv) {
		return api.Inventory{}, 0, api.ErrInvalid
	}
	return p.inv, 0, api.OK
}

func (p *parser) line(line string) api.Errno {
	read := map[string]func(words []string) api.Errno{
		"channel": p.channel,
		"epoch":   p.epoch,
		"gain":    p.gain,
		"section": p.section,
		"filter":  p.filter,
	}
	words := strings.Split(line, " ")
	f, ok := read[words[0]]
	if !ok {
		return api.ErrFormat
	}
	return f(words[1:])
}

func (p *parser) channel(words []string) api.Errno {
	if len(words) != 1 {
		return api.ErrFormat
	}
	parts := strings.Split(words[0], ".")
	if len(parts) != 4 {
		return api.ErrFormat
	}
	s := api.SourceID{Network: parts[0], Station: parts[1], Location: parts[2], Channel: parts[3]}
	if !source.Valid(s) {
		return api.ErrInvalid
	}
	p.inv.Channels = append(p.inv.Channels, api.Channel{Source: s})
	return api.OK
}

func (p *parser) lastChannel() *api.Channel {
	n := len(p.inv.Channels)
	if n == 0 {
		return nil
	}
	return &p.inv.Channels[n-1]
}

func (p *parser) lastEpoch() *api.Epoch {
	c := p.lastChannel()
	if c == nil || len(c.Epochs) == 0 {
		return nil
	}
	return &c.Epochs[len(c.Epochs)-1]
}

// number returns the number of a word in its only form.
func number(word string) (int, bool) {
	if len(strings.TrimPrefix(word, "-")) > maxDigits {
		return 0, false
	}
	n, err := strconv.Atoi(word)
	return n, err == nil && strconv.Itoa(n) == word
}

func numbers(words []string) ([]int, bool) {
	var l []int
	for _, w := range words {
		n, ok := number(w)
		if !ok {
			return nil, false
		}
		l = append(l, n)
	}
	return l, true
}

func (p *parser) epoch(words []string) api.Errno {
	c := p.lastChannel()
	if c == nil || len(words) != 6 {
		return api.ErrFormat
	}
	from, e := utc.Parse(p.leaps, words[0])
	to, e2 := utc.Parse(p.leaps, words[1])
	num, den, slash := strings.Cut(words[2], "/")
	l, ok := numbers([]string{num, den, words[3], words[4], words[5]})
	if e != api.OK || e2 != api.OK || !slash || !ok {
		return api.ErrFormat
	}
	x := api.Epoch{From: from, To: to, Rate: api.Rate{Num: l[0], Den: l[1]}, Position: api.Position{X: l[2], Y: l[3], Z: l[4]}}
	if !rate.Valid(x.Rate) || !ValidEpoch(x) {
		return api.ErrInvalid
	}
	c.Epochs = append(c.Epochs, x)
	return api.OK
}

func (p *parser) stage(s api.Stage) api.Errno {
	if !response.ValidStage(s) {
		return api.ErrInvalid
	}
	r := &p.lastEpoch().Response
	r.Stages = append(r.Stages, s)
	return api.OK
}

func (p *parser) gain(words []string) api.Errno {
	l, ok := numbers(words)
	if !ok || len(l) != 2 || p.lastEpoch() == nil {
		return api.ErrFormat
	}
	return p.stage(api.Stage{Kind: api.StageGain, Num: [3]int{l[0]}, Den: [3]int{l[1]}})
}

func (p *parser) section(words []string) api.Errno {
	l, ok := numbers(words)
	if !ok || len(l) != 6 || p.lastEpoch() == nil {
		return api.ErrFormat
	}
	return p.stage(api.Stage{Kind: api.StageSection, Num: [3]int{l[0], l[1], l[2]}, Den: [3]int{l[3], l[4], l[5]}})
}

func (p *parser) filter(words []string) api.Errno {
	l, ok := numbers(words)
	if !ok || len(l) < 3 || p.lastEpoch() == nil {
		return api.ErrFormat
	}
	return p.stage(api.Stage{Kind: api.StageFilter, Factor: l[0], Shift: l[1], Taps: l[2:]})
}
