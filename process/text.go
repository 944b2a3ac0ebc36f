package process

import (
	"strconv"
	"strings"

	"cannery/api"
)

// Format returns the text of some schedules, the empty one if they are not valid.
func Format(l []api.Schedule) string {
	if !ValidSchedules(l) {
		return ""
	}
	var text strings.Builder
	for _, s := range l {
		text.WriteString(lineOf(s))
	}
	return text.String()
}

// lineOf returns a schedule's line, with its line feed.
func lineOf(s api.Schedule) string {
	line := s.Product
	for _, n := range [...]int{s.Initial, s.Temp, s.Ticks, s.Fill} {
		line += " " + strconv.Itoa(n)
	}
	return line + "\n"
}

// Parse returns the schedules of a text, or the number of its first line that no text of schedules has there.
func Parse(s string) (l []api.Schedule, line int, e api.Errno) {
	if len(s) > api.MaxText {
		return nil, 0, api.ErrLong
	}
	for text := range strings.Lines(s) {
		x, ok := scheduleOf(text)
		if !ok || len(l) == mostSchedules {
			// Each line before it was a schedule.
			return nil, len(l), api.ErrSyntax
		}
		l = append(l, x)
	}
	return l, 0, api.OK
}

// scheduleOf reads a line with its line feed. What is read must make the same line again: so no other way to write a number is taken.
func scheduleOf(line string) (api.Schedule, bool) {
	words := strings.Split(strings.TrimSuffix(line, "\n"), " ")
	if len(words) != 5 {
		return api.Schedule{}, false
	}
	var numbers [4]int
	for i := range numbers {
		n, err := strconv.Atoi(words[i+1])
		if err != nil {
			return api.Schedule{}, false
		}
		numbers[i] = n
	}
	s := api.Schedule{
		Product: strings.Clone(words[0]), // so that the text is not kept
		Initial: numbers[0],
		Temp:    numbers[1],
		Ticks:   numbers[2],
		Fill:    numbers[3],
	}
	return s, validSchedule(s) && lineOf(s) == line
}
