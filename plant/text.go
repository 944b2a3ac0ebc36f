package plant

import (
	"strconv"
	"strings"

	"cannery/api"
)

// commandOf reads the Text of a command.
func commandOf(text string) (command, bool) {
	w := words{rest: strings.Split(text, " ")}
	var c command
	switch w.word() {
	case "wait":
		c = waiting{w.number()}
	case "lot":
		c = adding{w.word(), w.number()}
	case "use":
		c = using{api.Use{From: w.word(), To: w.word(), Least: w.number(), Most: w.number()}}
	case "tear":
		c = tearing{w.sheet()}
	case "cook":
		c = cooking{w.word(), w.word(), w.number(), w.number(), w.number(), w.number(), w.faults()}
	case "judge":
		c = judging{w.number()}
	case "ship":
		c = shipping{w.number(), w.word()}
	case "back":
		c = returning{w.number()}
	case "scrap":
		c = scrapping{w.number()}
	case "recall":
		c = recalling{w.word()}
	default:
		return nil, false
	}
	return c, !w.wrong && len(w.rest) == 0
}

// words are the words of a Text that have not been read yet. They are wrong once another word stood where one was looked for.
type words struct {
	rest  []string
	wrong bool
}

func (w *words) word() string {
	if len(w.rest) == 0 || w.rest[0] == "" {
		w.wrong = true
		return ""
	}
	word := w.rest[0]
	w.rest = w.rest[1:]
	return word
}

func (w *words) number() int {
	n, ok := numberOf(w.word())
	w.wrong = w.wrong || !ok
	return n
}

// sheet reads a sheet's numbers without the tick.
func (w *words) sheet() api.Sheet {
	return api.Sheet{
		Head:        w.number(),
		BodyHook:    w.number(),
		CoverHook:   w.number(),
		Height:      w.number(),
		EndPlate:    w.number(),
		BodyPlate:   w.number(),
		Wrinkle:     w.number(),
		Thickness:   w.number(),
		Countersink: w.number(),
	}
}

// faults reads all words that are left.
func (w *words) faults() []api.Fault {
	var l []api.Fault
	for !w.wrong && len(w.rest) > 0 {
		f := words{rest: strings.Split(w.word(), ":")}
		l = append(l, api.Fault{From: f.number(), To: f.number(), Most: f.number()})
		w.wrong = w.wrong || f.wrong || len(f.rest) > 0
	}
	return l
}

// numberOf reads a number. What is read must make the same word again: so no other way to write it is taken.
func numberOf(word string) (int, bool) {
	n, err := strconv.Atoi(word)
	return n, err == nil && within(n, -mostNumber, mostNumber) && strconv.Itoa(n) == word
}
