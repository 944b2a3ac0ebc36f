package store

import (
	"slices"
	"strconv"
	"strings"

	"cannery/api"
)

// longestText is how many bytes a text may have.
const longestText = 1000000

// Format returns the text of some moves, the empty one if it would not be read back.
func Format(l []api.Move) string {
	if len(l) > mostMoves || slices.ContainsFunc(l, unwritable) {
		return ""
	}
	var text strings.Builder
	for _, m := range l {
		text.WriteString(lineOf(m))
	}
	return text.String()
}

// unwritable reports whether no line tells a move.
func unwritable(m api.Move) bool {
	k, ok := kindOf(m.Kind)
	return !ok || !k.form().fits(m) || !within(m.At, 0, mostNumber) || !within(m.Pallet, 0, mostNumber)
}

// lineOf returns the line of a move, with its line feed.
func lineOf(m api.Move) string {
	f := kinds()[m.Kind].form()
	line := f.word + " " + strconv.Itoa(m.At) + " " + strconv.Itoa(m.Pallet)
	if f.where {
		line += " " + m.Where
	}
	if f.cans {
		line += " " + strconv.Itoa(m.Cans)
	}
	return line + "\n"
}

// Parse returns the moves of a text, or the number of its first line that is none.
func Parse(s string) (l []api.Move, line int, e api.Errno) {
	if len(s) > longestText {
		return nil, 0, api.ErrLong
	}
	for text := range strings.Lines(s) {
		m, ok := moveOf(text)
		if !ok {
			// Each line before it was a move.
			return nil, len(l), api.ErrSyntax
		}
		l = append(l, m)
	}
	if len(l) > mostMoves {
		return nil, 0, api.ErrLimit
	}
	return l, 0, api.OK
}

// moveOf reads a line with its line feed. What is read must make the same line again: so no other way to write a number is taken.
func moveOf(line string) (api.Move, bool) {
	words := strings.Split(strings.TrimSuffix(line, "\n"), " ")
	number, f := kindNamed(words[0])
	if len(words) != f.words() {
		return api.Move{}, false
	}
	m := api.Move{Kind: number, At: numberOf(words[1]), Pallet: numberOf(words[2])}
	if f.where {
		m.Where = strings.Clone(words[3]) // so that the text is not kept
	}
	if f.cans {
		m.Cans = numberOf(words[len(words)-1])
	}
	if unwritable(m) || lineOf(m) != line {
		return api.Move{}, false
	}
	return m, true
}

// kindNamed returns the number of the kind with a word, and its form; 0 if there is none.
func kindNamed(word string) (int, form) {
	for number := api.MIn; number <= api.MSample; number++ {
		if f := kinds()[number].form(); f.word == word {
			return number, f
		}
	}
	return 0, form{}
}

// words returns how many words a line of this form has.
func (f form) words() int {
	n := 3
	if f.where {
		n++
	}
	if f.cans {
		n++
	}
	return n
}

// numberOf reads a number; one that can't be read is told by -1, which no line has.
func numberOf(word string) int {
	n, err := strconv.Atoi(word)
	if err != nil {
		return -1
	}
	return n
}
