package retort

import (
	"strconv"
	"strings"

	"cannery/api"
)

// Format returns the text of a program, the empty one if the program is not valid.
func Format(p []api.Step) string {
	if !ValidProgram(p) {
		return ""
	}
	var text strings.Builder
	for _, s := range p {
		text.WriteString(lineOf(s))
	}
	return text.String()
}

// lineOf returns a valid step's line, with its line feed.
func lineOf(s api.Step) string {
	k := kinds()[s.Kind]
	line := k.word + " " + strconv.Itoa(s.Set)
	if k.timed() {
		line += " " + strconv.Itoa(s.Ticks)
	}
	return line + "\n"
}

// Parse returns the program of a text, or the number of its first line that no text of a program has there.
func Parse(s string) (p []api.Step, line int, e api.Errno) {
	if len(s) > api.MaxText {
		return nil, 0, api.ErrLong
	}
	defer func() {
		switch left := recover().(type) {
		case nil: // all lines were read
		case badLine:
			p, line, e = nil, int(left), api.ErrSyntax
		}
	}()
	return programOf(s), 0, api.OK
}

// badLine is the number of a line that no program has there; with it the parser panics.
type badLine int

func (n badLine) need(ok bool) {
	if !ok {
		panic(n)
	}
}

func programOf(text string) []api.Step {
	var p []api.Step
	for line := range strings.Lines(text) {
		// A line is a step, so that there are as many steps as lines before it.
		n := badLine(len(p))
		n.need(len(p) < api.MaxSteps)
		p = append(p, n.step(line))
	}
	badLine(0).need(len(p) > 0)
	return p
}

// step reads a line with its line feed. What is read must make the same line again: so no other way to write a step is taken.
func (n badLine) step(line string) api.Step {
	words := strings.Split(strings.TrimSuffix(line, "\n"), " ")
	n.need(len(words) == 2 || len(words) == 3)
	s := api.Step{Kind: kindOf(words[0]), Set: n.number(words[1])}
	if len(words) == 3 {
		s.Ticks = n.number(words[2])
	}
	n.need(validStep(s) && lineOf(s) == line)
	return s
}

func (n badLine) number(word string) int {
	number, err := strconv.Atoi(word)
	n.need(err == nil)
	return number
}
