package lethal

import (
	"iter"
	"strconv"
	"strings"

	"cannery/api"
)

// Format returns the text of some killers, or the empty string if it would not be read back.
func Format(l []api.Killer) string {
	if len(l) > api.MaxKillers {
		return ""
	}
	var text strings.Builder
	for i, k := range l {
		if !Valid(k) || named(l[:i], k.Name) {
			return ""
		}
		text.WriteString(lineOf(k))
	}
	return text.String()
}

// Parse returns the killers of a text, or the number of its first line that no text of killers has there.
func Parse(s string) (l []api.Killer, line int, e api.Errno) {
	if len(s) > api.MaxText {
		return nil, 0, api.ErrLong
	}
	for n, text := range lines(s) {
		k, ok := killerOf(text)
		if !ok || len(l) == api.MaxKillers || named(l, k.Name) {
			return nil, n, api.ErrSyntax
		}
		l = append(l, k)
	}
	return l, 0, api.OK
}

func named(l []api.Killer, name string) bool {
	for _, k := range l {
		if k.Name == name {
			return true
		}
	}
	return false
}

// lineOf returns a killer's line, with its line feed.
func lineOf(k api.Killer) string {
	line := k.Name
	for _, n := range [...]int{k.Ref, k.Z, k.D, k.Goal} {
		line += " " + strconv.Itoa(n)
	}
	return line + "\n"
}

// killerOf reads a line with its line feed. What is read must make the same line again: so no other way to write a number is taken.
func killerOf(line string) (api.Killer, bool) {
	words := strings.Split(strings.TrimSuffix(line, "\n"), " ")
	if len(words) != 5 {
		return api.Killer{}, false
	}
	var numbers [4]int
	for i := range numbers {
		n, err := strconv.Atoi(words[i+1])
		if err != nil {
			return api.Killer{}, false
		}
		numbers[i] = n
	}
	k := api.Killer{
		Name: strings.Clone(words[0]), // so that the text is not kept
		Ref:  numbers[0],
		Z:    numbers[1],
		D:    numbers[2],
		Goal: numbers[3],
	}
	return k, Valid(k) && lineOf(k) == line
}

// lines yields the lines of a text by their numbers, each with its line feed if it has one.
func lines(s string) iter.Seq2[int, string] {
	return func(yield func(int, string) bool) {
		rest := s
		for n := 0; rest != ""; n++ {
			end := strings.IndexByte(rest, '\n') + 1
			if end == 0 {
				end = len(rest)
			}
			if !yield(n, rest[:end]) {
				return
			}
			rest = rest[end:]
		}
	}
}
