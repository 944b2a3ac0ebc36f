package plant

import (
	"bytes"
	"iter"
	"slices"
	"strconv"
	"strings"

	"cannery/api"
)

// The numbers of the hash of a line.
const (
	hashBegin  = 14695981039346656037
	hashFactor = 1099511628211
)

// Lines returns the book.
func (p *Plant) Lines() []api.Line { return slices.Clone(p.look().lines) }

// Bytes returns the book as bytes.
func (p *Plant) Bytes() []byte {
	var b []byte
	for _, x := range p.look().lines {
		b = append(b, written(x)...)
		b = append(b, '\n')
	}
	return b
}

// Read returns the plant that a book makes.
func Read(x Setup, b []byte) (*Plant, api.Errno) {
	p, e := New(x)
	if e != api.OK {
		return nil, e
	}
	var lines []api.Line
	for line, e := range linesOf(b) {
		if e != api.OK {
			return nil, e
		}
		lines = append(lines, line)
	}
	for _, line := range lines {
		if !p.repeat(line) {
			return nil, api.ErrState
		}
	}
	return p, api.OK
}

// repeat does the command of a line, and reports whether it makes the same line again.
func (p *Plant) repeat(x api.Line) bool {
	c, ok := commandOf(x.Text)
	return ok && p.take(c) == api.OK && p.state.lines[x.Number] == x
}

// write adds the line of a command that was done.
func (s *state) write(text string) {
	var before uint64 // the Sum that the first line follows
	number := len(s.lines)
	if number > 0 {
		before = s.lines[number-1].Sum
	}
	x := api.Line{Number: number, Tick: s.tick, Text: text}
	x.Sum = sumOf(before, x)
	s.lines = added(s.lines, x)
}

// sumOf returns the Sum of a line behind one with the Sum before.
func sumOf(before uint64, x api.Line) uint64 {
	text := strconv.FormatUint(before, 10) + numbers(x.Number, x.Tick) + " " + x.Text
	sum := uint64(hashBegin)
	for _, b := range []byte(text) {
		sum = (sum ^ uint64(b)) * hashFactor
	}
	return sum
}

// written returns a line as the bytes have it, without its line feed.
func written(x api.Line) string {
	return strconv.Itoa(x.Number) + " " + strconv.Itoa(x.Tick) + " " + strconv.FormatUint(x.Sum, 10) + " " + x.Text
}

// linesOf yields the lines of a book's bytes, and stops at the first that does not fit, with its error. A torn line is none.
func linesOf(b []byte) iter.Seq2[api.Line, api.Errno] {
	return func(yield func(api.Line, api.Errno) bool) {
		number, before := 0, uint64(0)
		for line := range bytes.Lines(b) {
			text, whole := bytes.CutSuffix(line, []byte("\n"))
			if !whole {
				return
			}
			x, e := lineOf(string(text), number, before)
			if !yield(x, e) || e != api.OK {
				return
			}
			number, before = number+1, x.Sum
		}
	}
}

// lineOf reads a line behind one with the Sum before. What is read must make the same line again: so neither a wrong Sum nor another way to write a number fits.
func lineOf(text string, number int, before uint64) (api.Line, api.Errno) {
	words := strings.SplitN(text, " ", 4)
	if len(words) < 4 || words[3] == "" {
		return api.Line{}, api.ErrChain
	}
	tick, ok := numberOf(words[1])
	x := api.Line{Number: number, Tick: tick, Text: words[3]}
	x.Sum = sumOf(before, x)
	switch {
	case !ok || !within(tick, 0, api.MaxTick) || written(x) != text:
		return api.Line{}, api.ErrChain
	case number >= api.MaxLines:
		return api.Line{}, api.ErrLimit
	}
	return x, api.OK
}
