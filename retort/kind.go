package retort

import "cannery/api"

// kind is what a kind of step is: its word in texts, what its Ticks may be, and when a step of it is over.
type kind struct {
	word        string
	least, most int
	over        func(s api.Step, x api.Load) bool // x is the load after a tick of s
}

// kinds returns the kinds of steps by their numbers.
func kinds() [api.KCool + 1]kind {
	hot := func(s api.Step, x api.Load) bool { return x.Temp >= s.Set }
	long := func(s api.Step, x api.Load) bool { return x.Gone >= s.Ticks }
	both := func(s api.Step, x api.Load) bool { return hot(s, x) && long(s, x) }
	return [...]kind{
		api.KVent: {word: "vent", least: 0, most: api.MaxRun, over: both},
		api.KUp:   {word: "up", least: 0, most: 0, over: hot},
		api.KCook: {word: "cook", least: 1, most: api.MaxRun, over: long},
		api.KCool: {word: "cool", least: 1, most: api.MaxRun, over: long},
	}
}

// timed reports whether the Ticks of a step may differ: only then they stand in its line.
func (k kind) timed() bool { return k.least < k.most }

// kindOf returns the number of the kind with a word, 0 if there is none.
func kindOf(word string) int {
	for n, k := range kinds() {
		if k.word == word {
			return n
		}
	}
	return 0
}
