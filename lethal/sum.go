package lethal

import (
	"iter"

	"cannery/api"
)

const (
	quarter   = 250 // thousandths of a degree
	mostTemps = 10000
)

// Quarter returns the quarter of a temperature in thousandths of a degree.
func Quarter(t int) int {
	q := t / quarter
	if t%quarter < 0 {
		q--
	}
	return q
}

func quarterAbove(t int) int {
	if t%quarter == 0 {
		return Quarter(t)
	}
	return Quarter(t) + 1
}

// Sum returns the sum of the rates down at some temperatures (thousandths of a degree).
func Sum(k api.Killer, temps []int) (int, api.Errno) {
	if e := checkTemps(k, temps); e != api.OK {
		return 0, e
	}
	return total(temps, rateDown(k)), api.OK
}

// SumUp returns the sum of the rates up at the quarters above some temperatures (thousandths of a degree).
func SumUp(k api.Killer, temps []int) (int, api.Errno) {
	if e := checkTemps(k, temps); e != api.OK {
		return 0, e
	}
	return total(temps, rateUp(k)), api.OK
}

// Running returns the sums of the rates down at the first temperature, the first two, and so on.
func Running(k api.Killer, temps []int) ([]int, api.Errno) {
	if e := checkTemps(k, temps); e != api.OK {
		return nil, e
	}
	list := make([]int, 0, len(temps))
	for _, sum := range sums(temps, rateDown(k)) {
		list = append(list, sum)
	}
	return list, api.OK
}

// When returns the number of temperatures after which the running sum is first at least f.
func When(k api.Killer, temps []int, f int) (int, api.Errno) {
	if e := checkTemps(k, temps); e != api.OK {
		return 0, e
	}
	if e := checkLethality(k, f); e != api.OK {
		return 0, e
	}
	if f == 0 {
		return 0, api.OK
	}
	for n, sum := range sums(temps, rateDown(k)) {
		if sum >= f {
			return n, api.OK
		}
	}
	return 0, api.ErrNone
}

func checkTemps(k api.Killer, temps []int) api.Errno {
	if !Valid(k) {
		return api.ErrInvalid
	}
	if len(temps) > mostTemps {
		return api.ErrLimit
	}
	for _, t := range temps {
		if !within(t, api.MinTemp, api.MaxTemp) {
			return api.ErrRange
		}
	}
	return api.OK
}

// rateDown returns the function of a temperature (thousandths) that Sum adds up.
func rateDown(k api.Killer) func(int) int {
	r := ratesOf(k)
	return func(t int) int { return r.down(Quarter(t)) }
}

// rateUp returns the function of a temperature (thousandths) that SumUp adds up.
func rateUp(k api.Killer) func(int) int {
	r := ratesOf(k)
	return func(t int) int { return r.up(quarterAbove(t)) }
}

// sums yields how many temperatures there were, and the sum of what rate makes of them. Each sum is cut, so that none passes an int.
func sums(temps []int, rate func(int) int) iter.Seq2[int, int] {
	return func(yield func(int, int) bool) {
		sum := 0
		for i, t := range temps {
			sum = min(sum+rate(t), mostSum)
			if !yield(i+1, sum) {
				return
			}
		}
	}
}

func total(temps []int, rate func(int) int) int {
	last := 0
	for _, sum := range sums(temps, rate) {
		last = sum
	}
	return last
}
