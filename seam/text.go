package seam

import (
	"strconv"
	"strings"

	"cannery/api"
)

// Format returns the text of some sheets, the empty one if they are not valid.
func Format(l []api.Sheet) string {
	if !ValidSheets(l) {
		return ""
	}
	var text strings.Builder
	for _, x := range l {
		text.WriteString(lineOf(x))
	}
	return text.String()
}

// lineOf returns a sheet's line, with its line feed.
func lineOf(x api.Sheet) string {
	numbers := [...]int{x.Tick, x.Head, x.BodyHook, x.CoverHook, x.Height, x.EndPlate, x.BodyPlate, x.Wrinkle, x.Thickness, x.Countersink}
	var words [len(numbers)]string
	for i, n := range numbers {
		words[i] = strconv.Itoa(n)
	}
	return strings.Join(words[:], " ") + "\n"
}

// Parse returns the sheets of a text, or the number of its first line that no text of sheets has there.
func Parse(s string) (l []api.Sheet, line int, e api.Errno) {
	if len(s) > api.MaxText {
		return nil, 0, api.ErrLong
	}
	for text := range strings.Lines(s) {
		x, ok := sheetOf(text)
		if !ok || len(l) == api.MaxSheets || len(l) > 0 && !before(l[len(l)-1], x) {
			// Each line before it was a sheet.
			return nil, len(l), api.ErrSyntax
		}
		l = append(l, x)
	}
	return l, 0, api.OK
}

// sheetOf reads a line with its line feed. What is read must make the same line again: so no other way to write a number is taken.
func sheetOf(line string) (api.Sheet, bool) {
	words := strings.Split(strings.TrimSuffix(line, "\n"), " ")
	var n [10]int
	if len(words) != len(n) {
		return api.Sheet{}, false
	}
	for i, word := range words {
		number, err := strconv.Atoi(word)
		if err != nil {
			return api.Sheet{}, false
		}
		n[i] = number
	}
	x := api.Sheet{
		Tick: n[0], Head: n[1],
		BodyHook: n[2], CoverHook: n[3], Height: n[4],
		EndPlate: n[5], BodyPlate: n[6],
		Wrinkle: n[7], Thickness: n[8], Countersink: n[9],
	}
	return x, ValidSheet(x) && lineOf(x) == line
}
