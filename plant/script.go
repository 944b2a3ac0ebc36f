package plant

import (
	"strconv"
	"strings"

	"cannery/api"
	"cannery/process"
	"cannery/seam"
	"cannery/store"
)

// Do runs a script and returns what it prints.
func Do(p *Plant, s string) string {
	switch {
	case p.missing():
		return printed("", api.ErrInvalid)
	case len(s) > api.MaxText:
		return printed("", api.ErrLong)
	}
	var out strings.Builder
	for line := range strings.Lines(s) {
		// The names of commands stay in the plant: so they must not keep the whole script.
		out.WriteString(p.reply(strings.Clone(strings.TrimSuffix(line, "\n"))))
	}
	return out.String()
}

// reply does what a line says, and returns what it prints.
func (p *Plant) reply(line string) string {
	if line == "" {
		return ""
	}
	c, ok := commandOf(line)
	if !ok {
		return printed(p.state.answer(line))
	}
	if e := p.take(c); e != api.OK {
		return printed("", e)
	}
	return printed(p.state.done(c))
}

// printed returns a text or an error as a line.
func printed(text string, e api.Errno) string {
	if e != api.OK {
		text = "error " + strconv.Itoa(int(e))
	}
	return text + "\n"
}

// done returns what a command prints that was just done.
func (s state) done(c command) (string, api.Errno) {
	switch c := c.(type) {
	case cooking:
		x := s.latest()
		return process.Word(x.Verdict) + numbers(x.Reached), api.OK
	case recalling:
		lots, e := s.holding(c.lot)
		return "ok " + strings.Join(lots, " "), e
	}
	return "ok", api.OK
}

// answer returns what a line prints that changes nothing.
func (s state) answer(line string) (string, api.Errno) {
	word, about, _ := strings.Cut(line, " ")
	switch {
	case line == "now":
		return strconv.Itoa(s.tick), api.OK
	case about == "" || strings.Contains(about, " "):
		return "", api.ErrCommand
	case word == "account":
		return s.account(about)
	case word == "find":
		return s.find(about)
	case word == "safe":
		return s.safe(about)
	}
	return "", api.ErrCommand
}

func (s state) account(lot string) (string, api.Errno) {
	x, e := store.Account(s.life, s.moves, lot)
	return strings.TrimPrefix(numbers(x.Made, x.OnHand, x.Shipped, x.Destroyed, x.Samples), " "), e
}

func (s state) find(lot string) (string, api.Errno) {
	lots, e := s.holding(lot)
	if e != api.OK {
		return "", e
	}
	customers, cans, e := store.Where(s.life, s.moves, lots)
	var found []string
	for i, customer := range customers {
		found = append(found, customer+":"+strconv.Itoa(cans[i]))
	}
	return strings.Join(found, " "), e
}

func (s state) safe(tick string) (string, api.Errno) {
	t, ok := numberOf(tick)
	if !ok {
		return "", api.ErrCommand
	}
	safe, e := seam.Safe(s.Norm, s.sheets, s.Heads, t)
	if safe {
		return "yes", e
	}
	return "no", e
}
