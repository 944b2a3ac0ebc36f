package process

import (
	"slices"

	"cannery/api"
	"cannery/heat"
	"cannery/lethal"
)

// meter tells what heat does in the places of a can.
type meter struct {
	can   api.Can
	needs int
	rate  func(t int) int // what a tick at t (thousandths of a degree) does
}

// meterDown returns a meter of what lethal.Sum adds up. Cans are to be followed from the first of some temperatures in baths of the others: no place ever leaves their range.
func meterDown(c api.Can, k api.Killer, temps []int) meter {
	coldest, hottest := lethal.Quarter(slices.Min(temps)), lethal.Quarter(slices.Max(temps))
	// One table is much faster than as many single rates.
	table, _ := lethal.Table(k, coldest, hottest)
	known := make(map[int]int, len(table))
	for i, rate := range table {
		known[coldest+i] = rate
	}
	return meter{
		can:   c,
		needs: lethal.Needs(k),
		rate:  func(t int) int { return known[lethal.Quarter(t)] },
	}
}

// meterUp returns a meter of what lethal.SumUp adds up.
func meterUp(c api.Can, k api.Killer) meter {
	known := map[int]int{}
	return meter{
		can:   c,
		needs: lethal.Needs(k),
		rate: func(t int) int {
			quarter := quarterAbove(t)
			rate, ok := known[quarter]
			if !ok {
				rate, _ = lethal.RateUp(k, quarter)
				known[quarter] = rate
			}
			return rate
		},
	}
}

func quarterAbove(t int) int { return -lethal.Quarter(-t) }

// dish is a can at some time: its body, and what heat has done in each place until then.
type dish struct {
	body api.Body
	sums []int
}

// begin returns the dish that is even at a temperature.
func (m meter) begin(initial int) dish {
	body, _ := heat.Even(m.can, initial)
	return dish{body: body, sums: make([]int, len(body.Temps))}
}

// after returns a dish after a tick in a bath.
func (m meter) after(d dish, bath int) dish {
	body, _ := heat.Step(m.can, d.body, bath)
	sums := slices.Clone(d.sums)
	for i, t := range body.Temps {
		// Each sum is cut, so that none passes an int.
		sums[i] = min(sums[i]+m.rate(t), mostSum)
	}
	return dish{body: body, sums: sums}
}

// run returns the dish after a tick in each of some baths.
func (m meter) run(initial int, baths []int) dish {
	d := m.begin(initial)
	for _, bath := range baths {
		d = m.after(d, bath)
	}
	return d
}

// enough reports whether each place of a dish has what the killer needs.
func (m meter) enough(d dish) bool { return slices.Min(d.sums) >= m.needs }
