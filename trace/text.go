package trace

import (
	"slices"
	"strconv"
	"strings"

	"cannery/api"
)

// Format returns the text of a graph, the empty one if the graph is not valid.
func Format(l []api.Lot, u []api.Use) string {
	if Check(l, u) != api.OK {
		return ""
	}
	var text strings.Builder
	for _, x := range l {
		text.WriteString("lot " + x.Name + numbersOf(x.At, x.Size))
	}
	for _, x := range u {
		text.WriteString("use " + x.From + " " + x.To + numbersOf(x.Least, x.Most))
	}
	return text.String()
}

// numbersOf returns the end of a line.
func numbersOf(a, b int) string {
	return " " + strconv.Itoa(a) + " " + strconv.Itoa(b) + "\n"
}

// Parse returns the graph of a text, or the number of its first line that no text of a graph has there.
func Parse(s string) (l []api.Lot, u []api.Use, line int, e api.Errno) {
	if len(s) > api.MaxText {
		return nil, nil, 0, api.ErrLong
	}
	for text := range strings.Lines(s) {
		if names, numbers, ok := wordsOf(text, "lot", 1); ok && len(u) == 0 {
			l = append(l, api.Lot{Name: names[0], At: numbers[0], Size: numbers[1]})
		} else if names, numbers, ok := wordsOf(text, "use", 2); ok {
			u = append(u, api.Use{From: names[0], To: names[1], Least: numbers[0], Most: numbers[1]})
		} else {
			// Each line before it was a lot or a use.
			return nil, nil, len(l) + len(u), api.ErrSyntax
		}
	}
	if e := Check(l, u); e != api.OK {
		return nil, nil, 0, e
	}
	return l, u, 0, api.OK
}

// wordsOf reads a line with its line feed: a given word, so many names, and two numbers.
func wordsOf(line, word string, count int) (names []string, numbers [2]int, ok bool) {
	line, ended := strings.CutSuffix(line, "\n")
	words := strings.Split(line, " ")
	if !ended || len(words) != count+3 || words[0] != word || slices.Contains(words, "") {
		return nil, numbers, false
	}
	for i := range numbers {
		n, ok := numberOf(words[1+count+i])
		if !ok {
			return nil, [2]int{}, false
		}
		numbers[i] = n
	}
	for _, name := range words[1 : 1+count] {
		names = append(names, strings.Clone(name)) // so that the text is not kept
	}
	return names, numbers, true
}

// numberOf reads a number, which must be written as Format writes it.
func numberOf(word string) (int, bool) {
	n, err := strconv.Atoi(word)
	return n, err == nil && within(n, 0, mostNumber) && strconv.Itoa(n) == word
}
